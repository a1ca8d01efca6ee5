/-
  The contract of Create.
-/
import Derived.Test.YtgephceihkkokaaGreatDoorDUpd
import Derived.Test.YtgephceihkkokaaGreatDoorDMapW
namespace Go.Proofs.YtgephceihkkokaaGreatDoor
open Go.RowKit Go.Deep

/-- What a call on the disk tells, and leaves. -/
def OpTo (g : Gh) (k : Int) (st' : St) (w : World) (e : Ending) (w' : World) : Prop := e = .returned (.int .i64 k) ∧ ∃ g', DiskAt w' g' st' ∧ Gh.To w g g' w'
theorem OpTo.congr {g : Gh} {k k' : Int} {st st' : St} {w : World} {e : Ending} {w' : World} (h : OpTo g k st w e w') (h1 : k = k') (h2 : st = st') : OpTo g k' st' w e w' := by subst h1; subst h2; exact h

/-- What the fuse asks of a state. -/
def FuseOk (st : St) : Prop := (st.lit = true → 0 ≤ st.left) ∧ st.left ≤ 9223372036854775807

def emptyF : FileM := ⟨[], [], []⟩
def createE (st : St) (nm : ByteArray) : Int := if st.down = true then 8 else if (st.find nm).isSome = true then 10 else burnE st
def createS (st : St) (nm : ByteArray) : St := if st.down = true then st else if (st.find nm).isSome = true then st else if burnE st = 0 then { burnS st with fs := st.fs ++ [(nm, emptyF)] } else burnS st

theorem burnS_fs (st : St) : (burnS st).fs = st.fs := by unfold burnS; split <;> (try split) <;> rfl
theorem nil_strs (w : World) : Strs w 0 (.slice none 0 0) [] := ⟨none, 0, rfl, .inl rfl⟩

/-- The map is made. -/
theorem DiskAt.made {w : World} {g : Gh} {st : St} (h : DiskAt w g st) (hm : g.mb = none) :
    DiskAt ((w.setCell ⟨g.d, 6, none⟩ (.map (some w.heap.size))).alloc (.map #[] 0)) ⟨g.d, some w.heap.size, g.es⟩ st ∧ Gh.To w g ⟨g.d, some w.heap.size, g.es⟩ ((w.setCell ⟨g.d, 6, none⟩ (.map (some w.heap.size))).alloc (.map #[] 0)) := by
  have hes : g.es = [] := by have := h.map.2; rw [hm] at this; exact this
  have k2 : Chg (fun k => k = g.d) w (w.setCell ⟨g.d, 6, none⟩ (.map (some w.heap.size))) := Chg.setCell (S := fun k => k = g.d) (Chg.refl _ _) (fun _ => rfl) _
  have hsz : (w.setCell ⟨g.d, 6, none⟩ (.map (some w.heap.size))).heap.size = w.heap.size := by simp [World.setCell]
  have hd : g.d < w.heap.size := h.lt _ (mem_fp_d g)
  have hh := heap_setCell_same w g.d 6 _ _ (.map (some w.heap.size)) h.head
  refine ⟨⟨?_, ?_, ?_, ?_, ?_⟩, ⟨?_, ?_, rfl⟩⟩
  · show ((w.setCell ⟨g.d, 6, none⟩ (.map (some w.heap.size))).alloc (.map #[] 0)).heap[g.d]? = _
    rw [Below.heap_alloc _ _ _ (by rw [hsz]; exact hd), hh]
    rfl
  · show MapIn _ (some w.heap.size) g.es
    rw [hes]
    have := MapIn.made (w.setCell ⟨g.d, 6, none⟩ (.map (some w.heap.size)))
    rwa [hsz] at this
  · intro e he
    have : e ∈ g.es := he
    rw [hes] at this
    cases this
  · unfold Gh.fp
    simp only
    rw [hes]
    simp
    omega
  · exact h.fs
  · exact (k2.wide (fun k _ hk => hk ▸ mem_fp_d g)).trans (Chg.alloc (fun _ => False) (Chg.refl _ _) _) (fun _ _ x => x.elim)
  · intro k hk
    unfold Gh.fp at hk
    simp only at hk
    rw [hes] at hk
    simp at hk
    rcases hk with rfl | rfl
    · exact .inl (mem_fp_d g)
    · exact .inr (Nat.le_refl _)

def newE (nm : ByteArray) (b : Nat) : Ent := ⟨nm, b, .slice none 0 0, .slice none 0 0, .slice none 0 0, emptyF⟩
theorem newE_name (nm : ByteArray) (b : Nat) : (newE nm b).name = nm := rfl
theorem newE_blk (nm : ByteArray) (b : Nat) : (newE nm b).blk = b := rfl
theorem newE_at (w : World) (nm : ByteArray) : EntAt (w.alloc (.cells #[.slice none 0 0, .slice none 0 0, .slice none 0 0] 88)) (newE nm w.heap.size) :=
  ⟨heap_alloc_new w _, BytesAt.nil _, BytesAt.nil _, World.ownsRow_nil _ _ _ _, by simp [Ent.foot, newE, Value.ownBlock]⟩
theorem create_end {w w2 w4 : World} {g g2 : Gh} {st1 : St} {nm : ByteArray} {m : Nat} (hT : Gh.To w g g2 w2) (hD : DiskAt w2 g2 st1) (hmb : g2.mb = some m)
    (hM : MapIn w4 (some m) (g2.es ++ [newE nm w2.heap.size])) (hG : (w2.alloc (.cells #[.slice none 0 0, .slice none 0 0, .slice none 0 0] 88)).grownBy w4 (some m)) :
    OpTo g 0 { st1 with fs := st1.fs ++ [(nm, emptyF)] } w (.returned (.int .i64 0)) w4 := by
  have hD3 : DiskAt (w2.alloc (.cells #[.slice none 0 0, .slice none 0 0, .slice none 0 0] 88)) g2 st1 := hD.new (Chg.alloc _ (Chg.refl _ _) _)
  have hC := hD3.come hmb hM hG (newE_at w2 nm) (fun k hk hx => by
    have h1 : k = w2.heap.size := by simpa [Ent.foot, newE, Value.ownBlock] using hk
    have := hD.lt k hx
    omega)
  refine ⟨rfl, _, hC.1, hT.trans ?_⟩
  refine ⟨((Chg.alloc (fun _ => False) (Chg.refl _ _) _).wide (S' := (· ∈ g2.fp)) (fun _ _ x => x.elim)).trans hC.2 (fun _ _ x => x), fun k hk => ?_, rfl⟩
  have e1 : ({ g2 with es := g2.es ++ [newE nm w2.heap.size] } : Gh).fp = g2.fp ++ (newE nm w2.heap.size).foot := by
    unfold Gh.fp
    rw [List.flatMap_append]
    simp
  rw [e1] at hk
  rcases List.mem_append.1 hk with h1 | h1
  · exact .inl h1
  · exact .inr (by have h2 : k = w2.heap.size := by simpa [Ent.foot, newE, Value.ownBlock] using h1
                   omega)

set_option maxHeartbeats 1000000 in
set_option maxRecDepth 100000 in
theorem create_any (g : Gh) (st : St) (nm : ByteArray) (w : World) (h : DiskAt w g st) (hm : nm.size ≤ maxLen) (hf : FuseOk st) (hn : st.fs.length ≤ 1099511627776) :
    Calls Tryz.prog 25 #[.pointer (some ⟨g.d, 0, none⟩), .string nm] w (OpTo g (createE st nm) (createS st nm) w) := by
  obtain ⟨c0, c1, c2, c3, c4, c5, c6, hz⟩ := h.cells
  have hr := ready_any g st (.slice none 0 0) [] w h (nil_strs w) (fun t ht => by cases ht) (by simp)
  have hlk := h.map.look nm hm
  cases hq : st.down with
  | true =>
    rw [show ReadyTo st [] = fun w e w' => e = .returned (.int .i64 8) ∧ w = w' from by unfold ReadyTo readyE; rw [if_pos hq]] at hr
    have HR := Lib.hid hr
    have HG := Lib.hid h
    have HQ := Lib.hid hq
    clear hr hlk h hq hz
    go_enter Tryz.func25, Tryz.ntmps25
    go_wp2_with (go_at_call 50; refine HR.out.mono ?_; rintro e w' ⟨rfl, rfl⟩)
    go_ret
    exact OpTo.congr ⟨rfl, g, HG.out, Gh.To.refl _ _⟩ (by unfold createE; rw [if_pos HQ.out]) (by unfold createS; rw [if_pos HQ.out])
  | false =>
    rw [show ReadyTo st [] = fun w e w' => e = .returned (.int .i64 0) ∧ w = w' from by unfold ReadyTo readyE; rw [if_neg (by rw [hq]; simp)]; rfl] at hr
    have HR := Lib.hid hr
    have HG := Lib.hid h
    have HQ : Hid (¬ st.down = true) := by intro hx; rw [hq] at hx; cases hx
    have hfind := h.find nm
    clear hr h hq hz
    cases hg : getE g.es nm with
    | some e0 =>
      rw [hg] at hlk hfind
      have HF : Hid (st.find nm = some e0.f) := hfind.symm
      simp only [Option.map_some] at hlk
      clear hg hfind
      go_enter Tryz.func25, Tryz.ntmps25
      go_wp2_with (go_at_call 50; refine HR.out.mono ?_; rintro e w' ⟨rfl, rfl⟩)
      go_ret
      exact OpTo.congr ⟨rfl, g, HG.out, Gh.To.refl _ _⟩ (by unfold createE; rw [if_neg HQ.out, if_pos (by rw [HF.out]; rfl)]) (by unfold createS; rw [if_neg HQ.out, if_pos (by rw [HF.out]; rfl)])
    | none =>
      rw [hg] at hlk hfind
      have HF : Hid (¬ (st.find nm).isSome = true) := by show ¬ _; rw [← hfind]; simp
      have HGE := Lib.hid hg
      simp only [Option.map_none] at hlk
      clear hg hfind
      have hb := burn_any g st w HG.out hf.1 hf.2
      obtain ⟨k, hk⟩ : ∃ k, k = burnE st := ⟨_, rfl⟩
      have hk8 : k = 0 ∨ k = 8 := by rw [hk]; unfold burnE; split <;> simp
      rw [show BurnTo g st w = fun e w' => e = .returned (.int .i64 k) ∧ DiskAt w' g (burnS st) ∧ Gh.To w g g w' from by unfold BurnTo; rw [← hk]] at hb
      have HB := Lib.hid hb
      have HK := Lib.hid hk
      clear hb hk hf
      rcases hk8 with rfl | rfl
      · cases hmb : g.mb with
        | none =>
          rw [hmb] at hlk c6
          have HMB := Lib.hid hmb
          clear hmb
          go_enter Tryz.func25, Tryz.ntmps25
          go_wp2_with (first | (go_at_call 50; refine HR.out.mono ?_; rintro e w' ⟨rfl, rfl⟩) | (go_at_call 51; refine HB.out.mono ?_))
          rintro e w1 ⟨rfl, hd1, ht1⟩
          obtain ⟨_, _, _, _, _, _, d6, dz⟩ := hd1.cells
          rw [HMB.out] at d6
          have dz6 := dz 6
          have HD1 := Lib.hid hd1
          have HT1 := Lib.hid ht1
          clear hd1 ht1 dz
          have hmm := @run_makeMap Tryz.prog
          have hlt := HD1.out.lt _ (mem_fp_d g)
          have z6a : (w1.alloc (.map #[] 0)).frozen? ⟨g.d, 6, none⟩ = false := (World.frozen?_of_block (w := w1) (Below.heap_alloc w1 _ _ hlt)).trans dz6
          have d6a : (w1.alloc (.map #[] 0)).cell? ⟨g.d, 6, none⟩ = some (.map none) := (World.cell?_of_block (w := w1) (Below.heap_alloc w1 _ _ hlt)).trans d6
          have hM := HD1.out.made HMB.out
          have e6 := hM.1.cells.2.2.2.2.2.2.1
          simp only at e6
          have HM := Lib.hid hM
          clear hM
          have hen := fun w => run_eql_map_nil (P := Tryz.prog) w _ _ _ none Tryz.underlying68
          have hsz : ((w1.setCell ⟨g.d, 6, none⟩ (.map (some w1.heap.size))).alloc (.map #[] 0)).heap.size = w1.heap.size + 1 := by simp [World.setCell]
          have HSZ := Lib.hid hsz
          clear hsz
          have hge : getE g.es nm = none := HGE.out
          have hen' : g.es.length < maxLen := by
            have h1 := congrArg List.length HG.out.fs
            rw [List.length_map] at h1
            rw [h1]
            unfold maxLen
            omega
          have HEN := Lib.hid hen'
          clear hge hen'
          go_wp2_with (with_reducible refine wpList_store_ent rfl (.tmp 38) (.tmp 39) (.tmp 41) rfl w1.heap.size g.es nm (w1.heap.size + 1) (newE nm (w1.heap.size + 1)) rfl rfl rfl (newE_name _ _) (newE_blk _ _) ?c1 hm HGE.out HEN.out ?c2)
          case c1 =>
            have := (HM.out.1.new (Chg.alloc (fun _ => False) (Chg.refl _ _) (.cells #[.slice none 0 0, .slice none 0 0, .slice none 0 0] 88))).map
            exact this
          case c2 =>
            intro w4 hm4 hg4
            have HM4 := Lib.hid hm4
            have HG4 := Lib.hid hg4
            clear hm4 hg4
            go_wp2_with fail
            go_ret
            have he := create_end (nm := nm) (HT1.out.trans HM.out.2) HM.out.1 rfl (by rw [HSZ.out]; exact HM4.out) HG4.out
            exact OpTo.congr he (by unfold createE; rw [if_neg HQ.out, if_neg HF.out]; exact HK.out) (by unfold createS; rw [if_neg HQ.out, if_neg HF.out, if_pos HK.out.symm, burnS_fs])
        | some m =>
          rw [hmb] at hlk c6
          have HMB := Lib.hid hmb
          clear hmb
          go_enter Tryz.func25, Tryz.ntmps25
          go_wp2_with (first | (go_at_call 50; refine HR.out.mono ?_; rintro e w' ⟨rfl, rfl⟩) | (go_at_call 51; refine HB.out.mono ?_))
          rintro e w1 ⟨rfl, hd1, ht1⟩
          obtain ⟨_, _, _, _, _, _, d6, dz⟩ := hd1.cells
          rw [HMB.out] at d6
          have hen' : g.es.length < maxLen := by
            have h1 := congrArg List.length HG.out.fs
            rw [List.length_map] at h1
            rw [h1]
            unfold maxLen
            omega
          have HEN := Lib.hid hen'
          have HD1 := Lib.hid hd1
          have HT1 := Lib.hid ht1
          clear hd1 ht1 dz hen'
          have hen := fun w => run_eql_map_nil (P := Tryz.prog) w _ _ _ (some m) Tryz.underlying68
          simp only [Option.isNone_some] at hen
          go_wp2_with (with_reducible refine wpList_store_ent rfl (.tmp 38) (.tmp 39) (.tmp 41) rfl m g.es nm w1.heap.size (newE nm w1.heap.size) rfl rfl rfl (newE_name _ _) (newE_blk _ _) ?c1 hm HGE.out HEN.out ?c2)
          case c1 =>
            have := (HD1.out.new (Chg.alloc _ (Chg.refl _ _) (.cells #[.slice none 0 0, .slice none 0 0, .slice none 0 0] 88))).map
            rw [HMB.out] at this
            exact this
          case c2 =>
            intro w4 hm4 hg4
            have HM4 := Lib.hid hm4
            have HG4 := Lib.hid hg4
            clear hm4 hg4
            go_wp2_with fail
            go_ret
            have he := create_end (nm := nm) HT1.out HD1.out HMB.out HM4.out HG4.out
            exact OpTo.congr he (by unfold createE; rw [if_neg HQ.out, if_neg HF.out]; exact HK.out) (by unfold createS; rw [if_neg HQ.out, if_neg HF.out, if_pos HK.out.symm, burnS_fs])
      · go_enter Tryz.func25, Tryz.ntmps25
        go_wp2_with (first | (go_at_call 50; refine HR.out.mono ?_; rintro e w' ⟨rfl, rfl⟩) | (go_at_call 51; refine HB.out.mono ?_; rintro e w1 ⟨rfl, hd1, ht1⟩))
        go_ret
        exact OpTo.congr ⟨rfl, g, hd1, ht1⟩ (by unfold createE; rw [if_neg HQ.out, if_neg HF.out]; exact HK.out) (by unfold createS; rw [if_neg HQ.out, if_neg HF.out, if_neg (by rw [← HK.out]; decide)])
end Go.Proofs.YtgephceihkkokaaGreatDoor
