/-
  The contract of waiting: all writes that wait, in their order.
-/
import Derived.Test.YtgephceihkkokaaGreatDoorDSort
namespace Go.Proofs.YtgephceihkkokaaGreatDoor
open Go.RowKit Go.Deep

def waitsE1 (e : Ent) : List WaitM := e.f.writes.map fun x => ⟨x, e.blk⟩
def waitsOf (l : List Ent) : List WaitM := l.flatMap waitsE1
theorem waitsOf_snoc (l : List Ent) (e : Ent) : waitsOf (l ++ [e]) = waitsOf l ++ waitsE1 e := by simp [waitsOf]
theorem waitsOf_length (l : List Ent) : (waitsOf l).length = waitsE l := by
  unfold waitsOf waitsE
  induction l with
  | nil => rfl
  | cons e l ih => rw [List.flatMap_cons, List.length_append, ih, List.map_cons, List.sum_cons]; simp [waitsE1]
/-- What waiting hands back. -/
def WaitingTo (g : Gh) (w : World) (e : Ending) (w' : World) : Prop := ∃ v l, e = .returned v ∧ l.Perm (waitsOf g.es) ∧ Sorted l ∧ WaitsAt w' w.heap.size v l ∧ Below w.heap.size w w'

theorem info_waiting : (Tryz.prog.info? 105).map (fun i => (i.zero, i.size, i.bytes)) = some (some (.agg #[.int .i64 0, .int .i64 0, .string ⟨#[]⟩, .pointer none]), 4, 40) := by kernel_rfl
theorem WaitsAt.base {w : World} {b b' : Nat} {v : Value} {l : List WaitM} (h : WaitsAt w b v l) (hb : b' ≤ b) : WaitsAt w b' v l := by
  refine ⟨h.1, ?_⟩
  rcases h.2 with h0 | ⟨g, cap, cur, e, hbg, rest⟩
  · exact .inl h0
  · exact .inr ⟨g, cap, cur, e, by omega, rest⟩
theorem wenc_news (w : World) (z : WaitM) : ∀ j u, (wenc z)[j]? = some u → (w.alloc (.cells #[.int .i64 z.x.turn, .int .i64 z.x.at_, .string z.x.s, .pointer (some ⟨z.to_, 0, none⟩)] 105)).cell? ((⟨w.heap.size, 0, none⟩ : Addr).add j) = some u := by
  intro j u hu
  rw [add_none]
  have hu' : #[Value.int .i64 z.x.turn, .int .i64 z.x.at_, .string z.x.s, .pointer (some ⟨z.to_, 0, none⟩)][j]? = some u := by simpa [wenc] using hu
  simpa using hu'

set_option maxHeartbeats 2000000 in
set_option maxRecDepth 100000 in
theorem waiting_any (g : Gh) (st : St) (w : World) (h : DiskAt w g st) (hw : st.waits ≤ 1099511627776) :
    Calls Tryz.prog 60 #[.pointer (some ⟨g.d, 0, none⟩)] w (WaitingTo g w) := by
  have c6 := h.cells.2.2.2.2.2.2.1
  have HG := Lib.hid h
  have HWE : Hid (waitsE g.es ≤ 1099511627776) := by show _ ≤ _; rw [waits_eq h]; exact hw
  obtain ⟨i0, hi, hz0, hz1, hz2⟩ := info_parts info_waiting
  obtain ⟨R, hR⟩ : ∃ R, R = w.heap.size := ⟨_, rfl⟩
  have HR := Lib.hid hR
  have hmR : ∀ m, g.mb = some m → m < R := fun m hm => by rw [hR]; exact h.lt m (mem_fp_mb g hm)
  have HMR := Lib.hid hmR
  clear h hmR hw
  go_enter Tryz.func60, Tryz.ntmps60
  go_wp2_with (at_range; refine wpList_range_ents rfl _ rfl g.mb g.es rfl HG.out.map ?_; intro w0 cnt0 hrg0 hg0 hs0)
  rw [← hR] at hrg0 hs0 ⊢
  go_frame
  have HRG := Lib.hid hrg0
  have HG0 := Lib.hid hg0
  have HS0 := Lib.hid hs0
  clear hrg0 hg0 hs0 hR
  go_loopw [3, 5, 7] (fun u _ _ wr => ∃ v vis rem cnt, v = u ∧ RangeIn wr g.mb R g.es vis rem cnt ∧ Below w.heap.size w wr ∧ R + 1 ≤ wr.heap.size ∧ WaitsAt wr (R + 1) v (waitsOf vis)) (fun _ _ _ wr => toCome g.mb wr R)
  case atStart => exact ⟨_, [], _, _, rfl, HRG.out, below_grown (Below.refl _ _) HG0.out (Nat.le_refl _), by rw [HS0.out]; exact Nat.le_refl _, World.ownsRow_nil _ _ _ _⟩
  case round =>
    obtain ⟨v, vis, rem, cnt, rfl, hrg, hbl, hsz, hown⟩ := hrel
    have HRG1 := Lib.hid hrg
    have HBL := Lib.hid hbl
    have HOWN := Lib.hid hown
    clear hrg hbl HRG hown
    obtain ⟨wo, hwo⟩ : ∃ wo : World, wo = wr := ⟨_, rfl⟩
    subst hwo
    go_wp2_with (at_next; refine wpList_next_ents rfl _ rfl g.mb R g.es vis rem cnt rfl HRG1.out ?cd ?cm)
    case cd =>
      intro hrem
      have hp : vis.Perm g.es := by
        have := HRG1.out
        rw [hrem] at this
        exact this.done
      have hlen : (waitsOf vis).length ≤ 1099511627776 := by rw [waitsOf_length, waitsE_perm hp]; exact HWE.out
      have hs := sort_any v (waitsOf vis) (R + 1) wo HOWN.out (by omega)
      have HP := Lib.hid hp
      have HSO := Lib.hid hs
      clear hrem hp hs hlen
      go_wp2_with (go_at_call 81; refine HSO.out.mono ?_; rintro e w2 ⟨rfl, l', hp2, hs2, ho2, hg2⟩)
      go_ret
      refine ⟨v, l', rfl, hp2.trans ?_, hs2, ho2.base (by have := HR.out; omega), ?_⟩
      · exact (HP.out.map waitsE1).flatten
      · refine HBL.out.grown hg2 HBL.out.size (fun k hk => ?_)
        have := (HOWN.out.lt k hk).1
        have := HR.out
        omega
    case cm =>
      intro e r1 r2 w2 cnt2 hrem hmb hrg2 hlt hg2 hs2 hen
      obtain ⟨m, hm⟩ : ∃ m, g.mb = some m := by
        cases hq : g.mb with
        | none => exact absurd hq hmb
        | some m => exact ⟨m, rfl⟩
      have hp := HRG1.out.perm
      rw [hrem] at hp
      have hem : e ∈ g.es := hp.mem_iff.1 (List.mem_append_right _ (List.mem_append_right _ (List.mem_cons_self ..)))
      have hbl2 : Below w.heap.size w w2 := below_grown' HBL.out hg2 (Nat.le_refl _) (by rw [HR.out]; exact Nat.le_refl _)
      have hown2 : WaitsAt w2 (R + 1) v (waitsOf vis) := HOWN.out.kept hg2 (by
        by_cases h0 : v.ownBlock = none
        · exact .inl h0
        · right
          intro hx
          have := (HOWN.out.lt R hx).1
          omega)
      have htot : (waitsOf vis).length + e.f.writes.length ≤ 1099511627776 := by
        have h1 := waitsE_perm hp
        rw [waitsE_append, waitsE_append] at h1
        have h2 : waitsE (e :: r2) = e.f.writes.length + waitsE r2 := rfl
        have h3 := HWE.out
        rw [waitsOf_length]
        omega
      have hE2 : ∀ w3, Below w.heap.size w w3 → EntAt w3 e := fun w3 hb => (HG.out.ents e hem).chg (Chg.of_below (S := fun _ => False) hb) (fun _ _ x => x)
      have hE := hE2 w2 hbl2
      obtain ⟨pw, cw, hv⟩ := hE.writes.slice
      have q2 := hE.cells.2.2.1
      rw [hv] at q2
      obtain ⟨n, hn⟩ : ∃ n, n = e.f.writes.length := ⟨_, rfl⟩
      rw [← hn] at q2 htot hv
      have hme : cnt2 < toCome g.mb wo R := by
        have h2 := HRG1.out
        rw [hm] at h2 ⊢
        rw [h2.toCome]
        exact hlt
      have HE2 := Lib.hid hE2
      have HV := Lib.hid hv
      have HN := Lib.hid hn
      have HRG2 := Lib.hid hrg2
      have HBL2 := Lib.hid hbl2
      have HME := Lib.hid hme
      have HM := Lib.hid hm
      have HOWN2 := Lib.hid hown2
      have hsz2 : R + 1 ≤ w2.heap.size := by rw [hs2]; exact hsz
      clear hp hrem hmb hrg2 hlt hg2 hs2 hem hbl2 hE hE2 hv hn hme hm hown2 HRG1 HBL HOWN
      go_wp2_with fail
      go_loopw [3, 7, 22] (fun u _ i wr => ∃ v1 k, v1 = u ∧ k ≤ n ∧ i = .int .i64 (k : Nat) ∧ RangeIn wr g.mb R g.es (vis ++ [e]) (r1 ++ r2) cnt2 ∧ Below w.heap.size w wr ∧ R + 1 ≤ wr.heap.size ∧ WaitsAt wr (R + 1) v1 (waitsOf vis ++ (e.f.writes.take k).map fun x => (⟨x, e.blk⟩ : WaitM))) (fun _ _ i _ => n - (intOf i).toNat)
      case atStart => exact ⟨v, 0, rfl, Nat.zero_le _, rfl, HRG2.out, HBL2.out, hsz2, by simpa using HOWN2.out⟩
      case round =>
        obtain ⟨v1, k, rfl, hk, rfl, hrg3, hbl3, hsz3, hown3⟩ := hrel
        have HRG3 := Lib.hid hrg3
        have HBL3 := Lib.hid hbl3
        have HOWN3 := Lib.hid hown3
        clear hrg3 hbl3 hown3 HRG2 HBL2 HOWN2 hen q2
        by_cases hltk : k < n
        · have hlt' : k < e.f.writes.length := by rw [← HN.out]; exact hltk
          obtain ⟨x, hx⟩ : ∃ x, e.f.writes[k]? = some x := ⟨_, List.getElem?_eq_getElem hlt'⟩
          obtain ⟨gw, hpg, hg0, hg1, hg2⟩ : ∃ gw, pw = some ⟨gw, 0, none⟩ ∧ wr.cell? ⟨gw, k * 3, none⟩ = some (.int .i64 x.turn) ∧ wr.cell? ⟨gw, k * 3 + 1, none⟩ = some (.int .i64 x.at_) ∧ wr.cell? ⟨gw, k * 3 + 1 + 1, none⟩ = some (.string x.s) := by
            rcases (HE2.out wr HBL3.out).writes.form with ⟨_, h2⟩ | ⟨gw, cap, h1, _, h3⟩
            · rw [h2] at hx; cases hx
            · rw [HV.out] at h1
              cases h1
              exact ⟨gw, rfl, h3 k x hx⟩
          subst hpg
          have hlen : (waitsOf vis ++ (e.f.writes.take k).map fun x => (⟨x, e.blk⟩ : WaitM)).length ≤ 1099511627776 := by
            rw [List.length_append, List.length_map, List.length_take]
            omega
          have htk : (e.f.writes.take (k + 1)).map (fun x => (⟨x, e.blk⟩ : WaitM)) = (e.f.writes.take k).map (fun x => (⟨x, e.blk⟩ : WaitM)) ++ [⟨x, e.blk⟩] := by
            rw [List.take_add_one, hx, Option.toList_some, List.map_append]
            rfl
          obtain ⟨tn, at_, s⟩ := x
          obtain ⟨acc, hacc⟩ : ∃ acc, acc = waitsOf vis ++ (e.f.writes.take k).map fun x => (⟨x, e.blk⟩ : WaitM) := ⟨_, rfl⟩
          rw [← hacc] at hlen HOWN3
          have HTK := Lib.hid htk
          have HACC := Lib.hid hacc
          clear htk hacc hx hlt'
          go_wp2_with (at_builtin; refine wpList_append_own _ rfl (.tmp 26) (.tmp 30) 101 rfl (R + 1) 105 i0 _ 4 40 Tryz.underlying101 hi hz0 hz1 hz2 rfl (by decide) v1 acc.length (acc.flatMap wenc) rfl (World.ownsRow.alloc (World.ownsRow.alloc HOWN3.out _) _) ⟨wr.heap.size + 1, 0, none⟩ 1 1 (wenc ⟨⟨tn, at_, s⟩, e.blk⟩) rfl rfl ?c1 (wenc_one _) ?c3 ?c4 ?c5 ?c6)
          case c1 =>
            intro j u hu
            simpa [wenc] using hu
          case c3 => unfold maxLen; omega
          case c4 => omega
          case c5 => first | omega | (simp; omega)
          case c6 =>
            intro v' w4 hown4 hgrow4 _
            have hm := HM.out
            have hr4 : RangeIn w4 g.mb R g.es (vis ++ [e]) (r1 ++ r2) cnt2 := by
              have h1 := HRG3.out
              rw [hm] at h1 ⊢
              have h2 := h1.kept (S := fun _ => False) (Chg.alloc (fun _ => False) (Chg.alloc (fun _ => False) (Chg.refl _ _) (.cells #[.int .i64 tn, .int .i64 at_, .string s] 93)) (.cells #[.int .i64 tn, .int .i64 at_, .string s, .pointer (some ⟨e.blk, 0, none⟩)] 105)) (fun x => x) (fun x => x)
              exact h2.grown (World.ownsRow.alloc (World.ownsRow.alloc HOWN3.out _) _) hgrow4 (by have := HMR.out m hm; omega) (by omega)
            have hb4 : Below w.heap.size w w4 := by
              have h1 := ((HBL3.out).alloc HBL3.out.size (.cells #[.int .i64 tn, .int .i64 at_, .string s] 93)).alloc (by have := HBL3.out.size; simp; omega) (.cells #[.int .i64 tn, .int .i64 at_, .string s, .pointer (some ⟨e.blk, 0, none⟩)] 105)
              refine h1.grown hgrow4 h1.size (fun k hk => ?_)
              have := (HOWN3.out.lt k hk).1
              have := HR.out
              omega
            have hs4 : R + 1 ≤ w4.heap.size := by have := hgrow4.size; simp at this; omega
            have HR4 := Lib.hid hr4
            have HB4 := Lib.hid hb4
            have HO4 := Lib.hid hown4
            clear hr4 hb4 hown4 hgrow4 hm
            go_wp2_with fail
            refine ⟨⟨v', k + 1, rfl, by omega, by go_num, HR4.out, HB4.out, hs4, ?_⟩, by simp [intOf]; omega⟩
            unfold WaitsAt
            rw [HTK.out, ← List.append_assoc, ← HACC.out, List.length_append, List.flatMap_append]
            simpa using HO4.out
        · have hkn : k = n := by omega
          have hfin : WaitsAt wr (R + 1) v1 (waitsOf (vis ++ [e])) := by
            have h1 := HOWN3.out
            rw [hkn, HN.out, List.take_length] at h1
            rw [waitsOf_snoc]
            exact h1
          have hme3 : toCome g.mb wr R < toCome g.mb wo R := by
            have h1 := HRG3.out
            have h2 := HME.out
            rw [HM.out] at h1 h2 ⊢
            rw [h1.toCome]
            exact h2
          have HFIN := Lib.hid hfin
          have HME3 := Lib.hid hme3
          clear hkn hfin hme3
          go_wp2_with fail
          exact ⟨⟨v1, vis ++ [e], r1 ++ r2, cnt2, rfl, HRG3.out, HBL3.out, hsz3, HFIN.out⟩, HME3.out⟩
end Go.Proofs.YtgephceihkkokaaGreatDoor
