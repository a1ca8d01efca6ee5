/-
  EntryUnlike, walked. (Printed by mk_enti.py.)
-/
import Derived.Test.YtcbjlleigbnogaaEntH
import Derived.Test.YtcbjlleigbnogaaOpenArr
namespace Go.Proofs.Ytcbjlleigbnogaa
open Go.RowKit Go.Deep
set_option linter.unusedVariables false
set_option linter.unusedSimpArgs false

/-- Two entries' bytes: none of one, or alike just if they are. -/
theorem unlike4 (ws : List Nat) (x0 x1 x2 x3 y0 y1 y2 y3 : Int) : ∃ p o q r, put4 ws [x0, x1, x2, x3] = p ∧ fit4 ws [x0, x1, x2, x3] = o ∧ put4 ws [y0, y1, y2, y3] = q ∧ fit4 ws [y0, y1, y2, y3] = r ∧
    (o = false ∨ r = false ∨ (o = true ∧ r = true ∧ p = q ∧ x0 = y0 ∧ x1 = y1 ∧ x2 = y2 ∧ x3 = y3) ∨ (o = true ∧ r = true ∧ (p.toList == q.toList) = false ∧ ¬ (x0 = y0 ∧ x1 = y1 ∧ x2 = y2 ∧ x3 = y3))) := by
  refine ⟨_, _, _, _, rfl, rfl, rfl, rfl, ?_⟩
  cases ho : fit4 ws [x0, x1, x2, x3] with
  | false => exact .inl rfl
  | true =>
    cases hr : fit4 ws [y0, y1, y2, y3] with
    | false => exact .inr (.inl rfl)
    | true =>
      refine .inr (.inr ?_)
      by_cases h : put4 ws [x0, x1, x2, x3] = put4 ws [y0, y1, y2, y3]
      · refine .inl ⟨rfl, rfl, h, ?_⟩
        have b := (put_back ho).2
        have c := (put_back hr).2
        rw [h] at b
        exact ⟨(b 0 (by decide)).symm.trans (c 0 (by decide)), (b 1 (by decide)).symm.trans (c 1 (by decide)), (b 2 (by decide)).symm.trans (c 2 (by decide)), (b 3 (by decide)).symm.trans (c 3 (by decide))⟩
      · refine .inr ⟨rfl, rfl, ?_, fun k => h (by obtain ⟨rfl, rfl, rfl, rfl⟩ := k; rfl)⟩
        rw [Bool.eq_false_iff]
        intro e
        apply h
        have := beq_iff_eq.1 e
        rw [← ba_toList (put4 ws [x0, x1, x2, x3]), ← ba_toList (put4 ws [y0, y1, y2, y3]), this]

set_option maxRecDepth 100000 in
set_option maxHeartbeats 4000000 in
theorem walk_EntryUnlike (l0 l1 l2 l3 l4 l5 l6 l7 m0 m1 m2 m3 m4 m5 m6 m7 : Int) (w : World) :
    Calls Try.prog 5 #[.agg #[.int .i64 l0, .int .i64 l1, .int .i64 l2, .int .i64 l3, .int .i64 l4, .int .i64 l5, .int .i64 l6, .int .i64 l7], .agg #[.int .i64 m0, .int .i64 m1, .int .i64 m2, .int .i64 m3, .int .i64 m4, .int .i64 m5, .int .i64 m6, .int .i64 m7]] w fun e w' => e = .returned (.bool true) ∧ Below w.heap.size w w' := by
  obtain ⟨p0, o0, p1, o1, hp0, ho0, hp1, ho1, hl⟩ := unlike4 [6, 2, 5, 7] l0 l1 l2 l3 l4 l5 l6 l7
  obtain ⟨p2, o2, p3, o3, hp2, ho2, hp3, ho3, hm⟩ := unlike4 [6, 6, 6, 2] m0 m1 m2 m3 m4 m5 m6 m7
  have HP0 := Lib.hid hp0
  have HO0 := Lib.hid ho0
  have HP1 := Lib.hid hp1
  have HO1 := Lib.hid ho1
  have HP2 := Lib.hid hp2
  have HO2 := Lib.hid ho2
  have HP3 := Lib.hid hp3
  have HO3 := Lib.hid ho3
  have HL := Lib.hid hl
  have HM := Lib.hid hm
  clear hl hm hp0 ho0 hp1 ho1 hp2 ho2 hp3 ho3
  have hB : Below w.heap.size w ((w.alloc (.cells #[.int .i64 l0, .int .i64 l1, .int .i64 l2, .int .i64 l3, .int .i64 l4, .int .i64 l5, .int .i64 l6, .int .i64 l7] 44)).alloc (.cells #[.int .i64 m0, .int .i64 m1, .int .i64 m2, .int .i64 m3, .int .i64 m4, .int .i64 m5, .int .i64 m6, .int .i64 m7] 45)) := ((Below.refl _ _).alloc (Nat.le_refl _) _).alloc (by simp) _
  have hH0 : Holds ((w.alloc (.cells #[.int .i64 l0, .int .i64 l1, .int .i64 l2, .int .i64 l3, .int .i64 l4, .int .i64 l5, .int .i64 l6, .int .i64 l7] 44)).alloc (.cells #[.int .i64 m0, .int .i64 m1, .int .i64 m2, .int .i64 m3, .int .i64 m4, .int .i64 m5, .int .i64 m6, .int .i64 m7] 45)) w.heap.size #[.int .i64 l0, .int .i64 l1, .int .i64 l2, .int .i64 l3, .int .i64 l4, .int .i64 l5, .int .i64 l6, .int .i64 l7] := (holds_new w _ _ _ rfl).old (by simp) _
  have hH1 : Holds ((w.alloc (.cells #[.int .i64 l0, .int .i64 l1, .int .i64 l2, .int .i64 l3, .int .i64 l4, .int .i64 l5, .int .i64 l6, .int .i64 l7] 44)).alloc (.cells #[.int .i64 m0, .int .i64 m1, .int .i64 m2, .int .i64 m3, .int .i64 m4, .int .i64 m5, .int .i64 m6, .int .i64 m7] 45)) (w.heap.size + 1) #[.int .i64 m0, .int .i64 m1, .int .i64 m2, .int .i64 m3, .int .i64 m4, .int .i64 m5, .int .i64 m6, .int .i64 m7] := holds_new _ _ _ _ (by simp)
  have hS : w.heap.size + 1 + 1 = (((w.alloc (.cells #[.int .i64 l0, .int .i64 l1, .int .i64 l2, .int .i64 l3, .int .i64 l4, .int .i64 l5, .int .i64 l6, .int .i64 l7] 44)).alloc (.cells #[.int .i64 m0, .int .i64 m1, .int .i64 m2, .int .i64 m3, .int .i64 m4, .int .i64 m5, .int .i64 m6, .int .i64 m7] 45))).heap.size := by simp
  obtain ⟨W, hW⟩ : ∃ W, W = ((w.alloc (.cells #[.int .i64 l0, .int .i64 l1, .int .i64 l2, .int .i64 l3, .int .i64 l4, .int .i64 l5, .int .i64 l6, .int .i64 l7] 44)).alloc (.cells #[.int .i64 m0, .int .i64 m1, .int .i64 m2, .int .i64 m3, .int .i64 m4, .int .i64 m5, .int .i64 m6, .int .i64 m7] 45)) := ⟨_, rfl⟩
  rw [← hW] at hB hH0 hH1 hS
  have HB := Lib.hid hB
  have HH0 := Lib.hid hH0
  have HH1 := Lib.hid hH1
  have HS := Lib.hid hS
  have HW := Lib.hid hW
  clear hB hH0 hH1 hS hW
  go_enter Try.func5, Try.ntmps5
  go_wp2_with fail
  rw [← HW.out]
  refine (eawake_any _).mono ?_
  rintro e w1 ⟨rfl, hb⟩
  have HB1 := Lib.hid hb
  clear hb
  have k0 := HH0.out.on HB1.out (show w.heap.size < W.heap.size by rw [← HS.out]; omega)
  unfold Holds at k0
  have k1 := HH1.out.on HB1.out (show w.heap.size + 1 < W.heap.size by rw [← HS.out]; omega)
  unfold Holds at k1
  go_wp2_with fail
  refine (placePut_any l0 l1 l2 l3 _).mono ?_
  rintro e w2 ⟨rfl, hb⟩
  rw [HP0.out, HO0.out]
  have HB2 := Lib.hid (below_on hb HB1.out (Nat.le_refl _))
  clear hb k0 k1
  have k0 := HH0.out.on HB2.out (show w.heap.size < W.heap.size by rw [← HS.out]; omega)
  unfold Holds at k0
  have k1 := HH1.out.on HB2.out (show w.heap.size + 1 < W.heap.size by rw [← HS.out]; omega)
  unfold Holds at k1
  go_wp2_with fail
  refine (placePut_any l4 l5 l6 l7 _).mono ?_
  rintro e w3 ⟨rfl, hb⟩
  rw [HP1.out, HO1.out]
  have HB3 := Lib.hid (below_on hb HB2.out (Nat.le_refl _))
  clear hb k0 k1
  have k0 := HH0.out.on HB3.out (show w.heap.size < W.heap.size by rw [← HS.out]; omega)
  unfold Holds at k0
  have k1 := HH1.out.on HB3.out (show w.heap.size + 1 < W.heap.size by rw [← HS.out]; omega)
  unfold Holds at k1
  go_wp2_with fail
  refine (markPut_any m0 m1 m2 m3 _).mono ?_
  rintro e w4 ⟨rfl, hb⟩
  rw [HP2.out, HO2.out]
  have HB4 := Lib.hid (below_on hb HB3.out (Nat.le_refl _))
  clear hb k0 k1
  have k0 := HH0.out.on HB4.out (show w.heap.size < W.heap.size by rw [← HS.out]; omega)
  unfold Holds at k0
  have k1 := HH1.out.on HB4.out (show w.heap.size + 1 < W.heap.size by rw [← HS.out]; omega)
  unfold Holds at k1
  go_wp2_with fail
  refine (markPut_any m4 m5 m6 m7 _).mono ?_
  rintro e w5 ⟨rfl, hb⟩
  rw [HP3.out, HO3.out]
  have HB5 := Lib.hid (below_on hb HB4.out (Nat.le_refl _))
  clear hb k0 k1
  have k0 := HH0.out.on HB5.out (show w.heap.size < W.heap.size by rw [← HS.out]; omega)
  unfold Holds at k0
  have k1 := HH1.out.on HB5.out (show w.heap.size + 1 < W.heap.size by rw [← HS.out]; omega)
  unfold Holds at k1
  obtain h | h | ⟨h, h', rfl, rfl, rfl, rfl, rfl⟩ | ⟨h, h', hq, hne⟩ := HL.out
  case' inr.inr.inr => have HNE := Lib.hid hne; clear hne
  all_goals (obtain g | g | ⟨g, g', rfl, rfl, rfl, rfl, rfl⟩ | ⟨g, g', gq, gne⟩ := HM.out)
  all_goals (try (have GNE := Lib.hid gne; clear gne))
  all_goals subst h
  all_goals subst g
  all_goals (try subst h')
  all_goals (try subst g')
  all_goals
    go_wp2_with fail
    all_goals
      first
      | exact absurd ⟨by assumption, by assumption, by assumption, by assumption⟩ HNE.out
      | exact absurd ⟨by assumption, by assumption, by assumption, by assumption⟩ GNE.out
      | (go_ret; exact ⟨rfl, HB.out.trans (HB5.out.mono HB.out.size)⟩)
end Go.Proofs.Ytcbjlleigbnogaa
