/-
  The contract of kept: what a crash leaves of what waits.
-/
import Derived.Test.YtgephceihkkokaaGreatDoorDWaiting
namespace Go.Proofs.YtgephceihkkokaaGreatDoor
open Go.RowKit Go.Deep

/-- A slice value reads as these truths. -/
def BoolsOf (w : World) (v : Value) (bs : List Bool) : Prop :=
  ∃ a cap, v = .slice a bs.length cap ∧ (bs = [] ∨ ∃ b o, a = some ⟨b, o, none⟩ ∧ ∀ i, i < bs.length → w.cell? ⟨b, o + i, none⟩ = some (.bool (bs.getD i false)))
theorem BoolsOf.chg {S : Nat → Prop} {w w' : World} {v : Value} {bs : List Bool} (h : BoolsOf w v bs) (hc : Chg S w w') (hn : ∀ b o len cap, v = .slice (some ⟨b, o, none⟩) len cap → ¬ S b) : BoolsOf w' v bs := by
  obtain ⟨a, cap, rfl, h⟩ := h
  refine ⟨a, cap, rfl, ?_⟩
  rcases h with h | ⟨b, o, rfl, h⟩
  · exact .inl h
  · exact .inr ⟨b, o, rfl, fun i hi => hc.cell (h i hi) (hn b o _ _ rfl)⟩
theorem WaitsAt.form {w : World} {base : Nat} {v : Value} {l : List WaitM} (h : WaitsAt w base v l) : (v = .slice none 0 0 ∧ l = []) ∨
    ∃ g cap, v = .slice (some ⟨g, 0, none⟩) l.length cap ∧ v.ownBlock = some g ∧ base ≤ g ∧ (∀ i, w.frozen? ⟨g, i, none⟩ = false) ∧ ∀ i z, l[i]? = some z → w.cell? ⟨g, i * 4, none⟩ = some (.int .i64 z.x.turn) ∧ w.cell? ⟨g, i * 4 + 1, none⟩ = some (.int .i64 z.x.at_) ∧
      w.cell? ⟨g, i * 4 + 2, none⟩ = some (.string z.x.s) ∧ w.cell? ⟨g, i * 4 + 3, none⟩ = some (.pointer (some ⟨z.to_, 0, none⟩)) := by
  rcases h.2 with ⟨e, h0⟩ | ⟨g, cap, cur, e, hb, hg, h1, h2, h3, h4⟩
  · exact .inl ⟨e, List.length_eq_zero_iff.1 h0⟩
  · refine .inr ⟨g, cap, e, by rw [e]; rfl, hb, fun i => by simp [World.frozen?, hg], fun i z hz => ?_⟩
    have hi : i < l.length := (List.getElem?_eq_some_iff.1 hz).1
    have key : ∀ j, j < 4 → cur[i * 4 + j]? = (wenc z)[j]? := fun j hj => by
      have e1 : (cur.toList.take (l.length * 4))[i * 4 + j]? = (l.flatMap wenc)[i * 4 + j]? := by rw [h4]
      rw [List.getElem?_take, if_pos (by omega), Array.getElem?_toList, flat_get wenc_length l i j hj, hz] at e1
      exact e1
    have k0 := key 0 (by decide)
    have k1 := key 1 (by decide)
    have k2 := key 2 (by decide)
    have k3 := key 3 (by decide)
    simp [wenc] at k0 k1 k2 k3
    simp [World.cell?, hg, k0, k1, k2, k3]

def keepL (l : List WaitM) (bs : List Bool) : List WaitM := ((l.zip bs).filter (·.2)).map (·.1)
theorem keepL_snoc (l : List WaitM) (bs : List Bool) (k : Nat) (z : WaitM) (b : Bool) (hz : l[k]? = some z) (hb : bs[k]? = some b) :
    keepL (l.take (k + 1)) (bs.take (k + 1)) = keepL (l.take k) (bs.take k) ++ (if b = true then [z] else []) := by
  have hk1 : (l.take k).length = (bs.take k).length := by
    have h1 := (List.getElem?_eq_some_iff.1 hz).1
    have h2 := (List.getElem?_eq_some_iff.1 hb).1
    rw [List.length_take, List.length_take]; omega
  unfold keepL
  rw [List.take_add_one, List.take_add_one, hz, hb, Option.toList_some, Option.toList_some, List.zip_append hk1, List.filter_append, List.map_append]
  congr 1
  cases b <;> rfl
theorem keepL_length (l : List WaitM) (bs : List Bool) : (keepL l bs).length ≤ l.length := by
  unfold keepL
  rw [List.length_map]
  refine Nat.le_trans (List.length_filter_le _ _) ?_
  rw [List.length_zip]
  exact Nat.min_le_left _ _
/-- The last one lacks its end. -/
def lackX (x : WriteM) (lack : Int) : WriteM := { x with s := x.s.extract 0 (x.s.size - (min (max lack 0) x.s.size).toNat) }
def cutLast (d : List WaitM) (lack : Int) : List WaitM := match d.getLast? with
  | none => d
  | some z => d.dropLast ++ [⟨lackX z.x lack, z.to_⟩]
theorem keepL_min (l : List WaitM) (bs : List Bool) : keepL (l.take (min l.length bs.length)) (bs.take (min l.length bs.length)) = keepL l bs := by
  unfold keepL
  rw [← List.zip_eq_zip_take_min (l₁ := l) (l₂ := bs)]
theorem keepL_mem {l : List WaitM} {bs : List Bool} {z : WaitM} (h : z ∈ keepL l bs) : z ∈ l := by
  unfold keepL at h
  obtain ⟨p, hp, rfl⟩ := List.mem_map.1 h
  exact (List.of_mem_zip (List.mem_filter.1 hp).1).1
theorem cutLast_nil (lack : Int) : cutLast [] lack = [] := rfl
theorem cutLast_snoc (d : List WaitM) (z : WaitM) (lack : Int) : cutLast (d ++ [z]) lack = d ++ [⟨lackX z.x lack, z.to_⟩] := by
  unfold cutLast
  rw [List.getLast?_append]
  simp
def KeptTo (l : List WaitM) (bs : List Bool) (lack : Int) (w : World) (e : Ending) (w' : World) : Prop :=
  ∃ v, e = .returned v ∧ WaitsAt w' w.heap.size v (cutLast (keepL l bs) lack) ∧ Below w.heap.size w w'

set_option maxHeartbeats 2000000 in
set_option maxRecDepth 100000 in
theorem kept_any (vl vk : Value) (l : List WaitM) (bs : List Bool) (lack : Int) (w : World) (base : Nat) (hl : WaitsAt w base vl l) (hk : BoolsOf w vk bs) (hn : l.length ≤ 1099511627776) (hb : bs.length ≤ 1099511627776) (hz : ∀ z ∈ l, z.x.s.size ≤ 1099511627776) :
    Calls Tryz.prog 59 #[vl, .agg #[vk, .int .i64 lack]] w (KeptTo l bs lack w) := by
  obtain ⟨ak, ck, rfl, hkb⟩ := hk
  obtain ⟨al, cl, hal⟩ : ∃ a c, vl = .slice a l.length c := by
    rcases hl.form with ⟨h1, h2⟩ | ⟨g, cap, h1, _⟩
    · exact ⟨_, _, by rw [h1, h2]; rfl⟩
    · exact ⟨_, _, h1⟩
  subst hal
  obtain ⟨i0, hi, hz0, hz1, hz2⟩ := info_parts info_waiting
  have HKB := Lib.hid hkb
  have HZ := Lib.hid hz
  clear hz
  have HL := Lib.hid hl
  obtain ⟨n, hnn⟩ : ∃ n, n = l.length := ⟨_, rfl⟩
  obtain ⟨m, hmm⟩ : ∃ m, m = bs.length := ⟨_, rfl⟩
  rw [← hnn] at hn ⊢
  rw [← hmm] at hb ⊢
  have HN := Lib.hid hnn
  have HM := Lib.hid hmm
  clear hl hkb hnn hmm
  obtain ⟨q, hq⟩ : ∃ q, q = min n m := ⟨_, rfl⟩
  have hqn : q ≤ n := by omega
  have hqm : q ≤ m := by omega
  have HQ := Lib.hid hq
  have hmin : min n m = q := hq.symm
  obtain ⟨R, hR⟩ : ∃ R, R = w.heap.size := ⟨_, rfl⟩
  have HR := Lib.hid hR
  clear hq hR
  go_enter Tryz.func59, Tryz.ntmps59
  go_wp2_with fail
  clear hmin
  have r0 : (w.alloc (.cells #[.slice ak m ck, .int .i64 lack] 61)).cell? ⟨R, 0, none⟩ = some (.slice ak m ck) := by rw [HR.out]; simp
  have r1 : (w.alloc (.cells #[.slice ak m ck, .int .i64 lack] 61)).cell? ⟨R, 1, none⟩ = some (.int .i64 lack) := by rw [HR.out]; simp
  rw [← HR.out]
  have HR0 := Lib.hid r0
  have HR1 := Lib.hid r1
  clear r0 r1
  go_loopw [5, 6, 14] (fun u _ i wr => ∃ v k, v = u ∧ k ≤ q ∧ i = .int .i64 (k : Nat) ∧ WaitsAt wr (R + 1) v (keepL (l.take k) (bs.take k)) ∧ Below w.heap.size w wr ∧ R + 1 ≤ wr.heap.size ∧ wr.cell? ⟨R, 0, none⟩ = some (.slice ak m ck) ∧ wr.cell? ⟨R, 1, none⟩ = some (.int .i64 lack)) (fun _ _ i _ => q - (intOf i).toNat)
  case atStart => exact ⟨_, 0, rfl, Nat.zero_le _, rfl, World.ownsRow_nil _ _ _ _, (Below.refl _ _).alloc (Nat.le_refl _) _, by rw [HR.out]; simp, HR0.out, HR1.out⟩
  case round =>
    obtain ⟨v, k, rfl, hk, rfl, hown, hbl, hsz, k0, k1⟩ := hrel
    have HOWN := Lib.hid hown
    have HBL := Lib.hid hbl
    clear hown hbl HR0 HR1
    by_cases hlt : k < q
    · have hlk : k < l.length := by rw [← HN.out]; omega
      have hbk : k < bs.length := by rw [← HM.out]; omega
      obtain ⟨z, hz⟩ : ∃ z, l[k]? = some z := ⟨_, List.getElem?_eq_getElem hlk⟩
      obtain ⟨b, hb⟩ : ∃ b, bs[k]? = some b := ⟨_, List.getElem?_eq_getElem hbk⟩
      obtain ⟨bb, bo, hak, hbc⟩ : ∃ bb bo, ak = some ⟨bb, bo, none⟩ ∧ wr.cell? ⟨bb, bo + k, none⟩ = some (.bool b) := by
        rcases HKB.out with h | ⟨bb, bo, h1, h2⟩
        · rw [h] at hbk; cases hbk
        · refine ⟨bb, bo, h1, ?_⟩
          have h3 := h2 k hbk
          rw [List.getD_eq_getElem?_getD, hb] at h3
          exact (HBL.out.cell (p := ⟨bb, bo + k, none⟩) (World.block_lt_of_cell? _ _ h3)).trans h3
      obtain ⟨gl, hgl, e0, e1, e2, e3⟩ : ∃ gl, al = some ⟨gl, 0, none⟩ ∧ wr.cell? ⟨gl, k * 4, none⟩ = some (.int .i64 z.x.turn) ∧ wr.cell? ⟨gl, k * 4 + 1, none⟩ = some (.int .i64 z.x.at_) ∧ wr.cell? ⟨gl, k * 4 + 1 + 1, none⟩ = some (.string z.x.s) ∧ wr.cell? ⟨gl, k * 4 + 1 + 1 + 1, none⟩ = some (.pointer (some ⟨z.to_, 0, none⟩)) := by
        rcases HL.out.form with ⟨_, h2⟩ | ⟨gl, cap, h1, _, _, _, h3⟩
        · rw [h2] at hlk; cases hlk
        · cases h1
          obtain ⟨c0, c1, c2, c3⟩ := h3 k z hz
          have tr : ∀ i u, w.cell? ⟨gl, i, none⟩ = some u → wr.cell? ⟨gl, i, none⟩ = some u := fun i u hu => (HBL.out.cell (p := ⟨gl, i, none⟩) (World.block_lt_of_cell? _ _ hu)).trans hu
          exact ⟨gl, rfl, tr _ _ c0, tr _ _ c1, tr _ _ c2, tr _ _ c3⟩
      subst hak
      subst hgl
      have hks := keepL_snoc l bs k z b hz hb
      have hln : (keepL (l.take k) (bs.take k)).length ≤ 1099511627776 := by
        refine Nat.le_trans (keepL_length _ _) ?_
        rw [List.length_take]
        omega
      obtain ⟨⟨tn, at_, s⟩, pt⟩ := z
      obtain ⟨acc, hacc⟩ : ∃ acc, acc = keepL (l.take k) (bs.take k) := ⟨_, rfl⟩
      rw [← hacc] at hln hks HOWN
      have HKS := Lib.hid hks
      clear hks hz hb hlk hbk hacc
      cases b with
      | false =>
        go_wp2_with fail
        refine ⟨⟨v, k + 1, rfl, by omega, by go_num, ?_, HBL.out, hsz, k0, k1⟩, by simp [intOf]; omega⟩
        rw [HKS.out]
        simpa using HOWN.out
      | true =>
        go_wp2_with (at_builtin; refine wpList_append_own _ rfl (.tmp 22) (.tmp 27) 101 rfl (R + 1) 105 i0 _ 4 40 Tryz.underlying101 hi hz0 hz1 hz2 rfl (by decide) v acc.length (acc.flatMap wenc) rfl (World.ownsRow.alloc HOWN.out _) ⟨wr.heap.size, 0, none⟩ 1 1 (wenc ⟨⟨tn, at_, s⟩, pt⟩) rfl rfl ?c1 (wenc_one _) ?c3 ?c4 ?c5 ?c6)
        case c1 =>
          intro j u hu
          simpa [wenc] using hu
        case c3 => unfold maxLen; omega
        case c4 => omega
        case c5 => first | omega | (simp; omega)
        case c6 =>
          intro v' w4 hown4 hgrow4 _
          have hb4 : Below w.heap.size w w4 := by
            have h1 := (HBL.out).alloc HBL.out.size (.cells #[.int .i64 tn, .int .i64 at_, .string s, .pointer (some ⟨pt, 0, none⟩)] 105)
            refine h1.grown hgrow4 h1.size (fun k hk => ?_)
            have := (HOWN.out.lt k hk).1
            have := HR.out
            omega
          have hs4 : R + 1 ≤ w4.heap.size := by have := hgrow4.size; simp at this; omega
          have hkeep : ∀ i u, wr.cell? ⟨R, i, none⟩ = some u → w4.cell? ⟨R, i, none⟩ = some u := fun i u hu => by
            have h1 : (wr.alloc (.cells #[.int .i64 tn, .int .i64 at_, .string s, .pointer (some ⟨pt, 0, none⟩)] 105)).cell? ⟨R, i, none⟩ = some u := (World.cell?_of_block (w := wr) (Below.heap_alloc wr _ _ (World.block_lt_of_cell? _ _ hu))).trans hu
            refine hgrow4.cell h1 ?_
            intro hx
            have := (HOWN.out.lt R hx.symm).1
            omega
          have j0 := hkeep 0 _ k0
          have j1 := hkeep 1 _ k1
          have HB4 := Lib.hid hb4
          have HO4 := Lib.hid hown4
          have J0 := Lib.hid j0
          have J1 := Lib.hid j1
          clear hb4 hown4 hgrow4 hkeep j0 j1
          go_wp2_with fail
          refine ⟨⟨v', k + 1, rfl, by omega, by go_num, ?_, HB4.out, hs4, J0.out, J1.out⟩, by simp [intOf]; omega⟩
          unfold WaitsAt
          rw [HKS.out, if_pos trivial, List.length_append, List.flatMap_append]
          simpa using HO4.out
    · have hkq : k = q := by omega
      have hlm : min (n : Int) (m : Int) ≤ (k : Int) := by have := HQ.out; omega
      have hln : ¬ ((k : Int) < min (n : Int) (m : Int)) := by omega
      have hd : WaitsAt wr (R + 1) v (keepL l bs) := by
        have h1 := HOWN.out
        rw [hkq, HQ.out, HN.out, HM.out, keepL_min] at h1
        exact h1
      clear HOWN hkq
      obtain ⟨d, hdd⟩ : ∃ d, d = keepL l bs := ⟨_, rfl⟩
      rw [← hdd] at hd
      have HDD := Lib.hid hdd
      have hdl : d.length ≤ 1099511627776 := by
        rw [hdd]
        refine Nat.le_trans (keepL_length _ _) ?_
        rw [← HN.out]
        exact hn
      clear hdd
      rcases List.eq_nil_or_concat d with rfl | ⟨d0, z, hz⟩
      · obtain ⟨p, c, rfl⟩ : ∃ p c, v = .slice p 0 c := by
          rcases hd.form with ⟨h1, _⟩ | ⟨g, cap, h1, _⟩
          · exact ⟨_, _, h1⟩
          · exact ⟨_, _, h1⟩
        have HD := Lib.hid hd
        clear hd
        go_wp2_with fail
        go_ret
        refine ⟨_, rfl, ?_, HBL.out⟩
        rw [← HDD.out, cutLast_nil]
        exact HD.out.base (by have := HR.out; omega)
      · rw [List.concat_eq_append] at hz
        subst hz
        have hdl' : d0.length + 1 ≤ 1099511627776 := by simpa using hdl
        obtain ⟨gd, cap, hv, hob, hgb, hfz, hcs⟩ : ∃ gd cap, v = .slice (some ⟨gd, 0, none⟩) (d0.length + 1) cap ∧ v.ownBlock = some gd ∧ R + 1 ≤ gd ∧ (∀ i, wr.frozen? ⟨gd, i, none⟩ = false) ∧ wr.cell? ⟨gd, d0.length * 4 + 2, none⟩ = some (.string z.x.s) := by
          rcases hd.form with ⟨_, h2⟩ | ⟨g, cap, h1, h2, h3, h4, h5⟩
          · simp at h2
          · exact ⟨g, cap, by simpa using h1, h2, h3, h4, (h5 d0.length z (by simp)).2.2.1⟩
        subst hv
        obtain ⟨nd, hnd⟩ : ∃ nd, nd = d0.length := ⟨_, rfl⟩
        rw [← hnd] at hdl' hcs ⊢
        have hf2 := hfz (nd * 4 + 2)
        have HD := Lib.hid hd
        have HND := Lib.hid hnd
        clear hd hfz hob hdl hnd
        obtain ⟨⟨tn, at_, s⟩, pt⟩ := z
        simp only at hcs
        obtain ⟨wl, hwl⟩ : ∃ wl : Nat, (wl : Int) = min (max lack 0) (s.size : Int) := ⟨(min (max lack 0) (s.size : Int)).toNat, by omega⟩
        have hwi : ∀ w', Calls Tryz.prog 30 #[.int .i64 lack, .int .i64 (s.size : Nat)] w' fun e w'' => e = .returned (.int .i64 (wl : Nat)) ∧ w' = w'' := fun w' => hwl ▸ within_any lack s.size w'
        obtain ⟨cc, hcc⟩ : ∃ cc, cc = s.size - wl := ⟨_, rfl⟩
        have hss : s.size ≤ 1099511627776 := HZ.out ⟨⟨tn, at_, s⟩, pt⟩ (keepL_mem (by rw [← HDD.out]; simp))
        have hwr : IntKind.i64.wrap ((s.size : Int) - (wl : Int)) = (cc : Int) := by
          rw [IntWalk.i64_in _ (by omega)]
          omega
        have hc1 : (0 : Int) ≤ (cc : Int) := by omega
        have hc2 : (cc : Int) ≤ (s.size : Int) := by omega
        have hc3 : cc ≤ s.size := by omega
        have HWI := Lib.hid hwi
        have HWL := Lib.hid hwl
        have HCC := Lib.hid hcc
        clear hwi hwl hcc
        go_wp2_with fail
        go_still_tail 26, (by kernel_rfl)
        still_call ((HWI.out _).mono fun _ _ h => ⟨h.1, h.2.symm⟩)
        repeat still_step
        refine wpStill_nil ?_
        change wpList _ _ _ _ _ wr.drew
        have hd2 : WaitsAt wr.drew (R + 1) (.slice (some ⟨gd, 0, none⟩) (nd + 1) cap) (d0 ++ [⟨⟨tn, at_, s⟩, pt⟩]) := by rw [HND.out]; exact HD.out
        have hb2 := HBL.out.drew
        have cs2 : wr.drew.cell? ⟨gd, nd * 4 + 2, none⟩ = some (.string s) := hcs
        have fz2 : wr.drew.frozen? ⟨gd, nd * 4 + 2, none⟩ = false := hf2
        have hge : gd < wr.heap.size := World.block_lt_of_cell? _ _ hcs
        clear hcs hf2 k0 k1
        generalize wr.drew = w5 at hd2 hb2 cs2 fz2 ⊢
        have HD2 := Lib.hid hd2
        have HB2 := Lib.hid hb2
        clear hd2 hb2
        go_wp2_with fail
        go_ret
        have hfl : (d0 ++ [(⟨⟨tn, at_, s⟩, pt⟩ : WaitM)]).length = nd + 1 := by rw [List.length_append, HND.out]; rfl
        have hst : w5.ownsRow (R + 1) 105 4 (.slice (some ⟨gd, 0, none⟩) (nd + 1) cap) (nd + 1) ((d0 ++ [(⟨⟨tn, at_, s⟩, pt⟩ : WaitM)]).flatMap wenc) := by
          have := HD2.out
          unfold WaitsAt at this
          rwa [hfl] at this
        have hsto := hst.stored (nd * 4 + 2) (.string (s.extract 0 cc))
        have hset : (((d0 ++ [(⟨⟨tn, at_, s⟩, pt⟩ : WaitM)]).flatMap wenc).set (nd * 4 + 2) (.string (s.extract 0 cc))) = (d0 ++ [(⟨lackX ⟨tn, at_, s⟩ lack, pt⟩ : WaitM)]).flatMap wenc := by
          have h7 : ∀ x : List WaitM, (x.flatMap wenc).length = x.length * 4 := by
            intro x
            induction x with
            | nil => rfl
            | cons a x ih => rw [List.flatMap_cons, List.length_append, ih, wenc_length, List.length_cons]; omega
          rw [List.flatMap_append, List.flatMap_append, List.set_append_right _ _ (by rw [h7, HND.out]; omega), h7, ← HND.out, Nat.add_sub_cancel_left]
          have e8 : cc = s.size - (min (max lack 0) (s.size : Int)).toNat := by rw [HCC.out]; have := HWL.out; omega
          simp [wenc, lackX, e8]
        refine ⟨_, rfl, ?_, ?_⟩
        · rw [← HDD.out, cutLast_snoc]
          have h1 := hsto.1
          rw [hset] at h1
          have h2 : WaitsAt (w5.setCell ⟨gd, nd * 4 + 2, none⟩ (.string (s.extract 0 cc))) (R + 1) (.slice (some ⟨gd, 0, none⟩) (nd + 1) cap) (d0 ++ [⟨lackX ⟨tn, at_, s⟩ lack, pt⟩]) := by
            unfold WaitsAt
            rw [show (d0 ++ [(⟨lackX ⟨tn, at_, s⟩ lack, pt⟩ : WaitM)]).length = nd + 1 by rw [List.length_append, HND.out]; rfl]
            exact h1
          exact h2.base (by have := HR.out; omega)
        · exact HB2.out.setCell (by show w.heap.size ≤ gd; have := HR.out; omega) _
end Go.Proofs.YtgephceihkkokaaGreatDoor
