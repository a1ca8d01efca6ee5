/-
  entry: Get of each kind. (Printed by mk_entd.py.)
-/
import Derived.Test.YtcbjlleigbnogaaEntC
namespace Go.Proofs.Ytcbjlleigbnogaa
open Go.RowKit Go.Deep
set_option linter.unusedVariables false
set_option linter.unusedSimpArgs false

set_option maxHeartbeats 1000000 in
theorem placeGet_any (s : ByteArray) (w : World) : Calls Try.prog 11 #[.string s] w (GetPost w s [6, 2, 5, 7]) := by
  obtain ⟨a, ha⟩ : ∃ a, a = get4 s [6, 2, 5, 7] 0 := ⟨_, rfl⟩
  obtain ⟨b, hb⟩ : ∃ a, a = get4 s [6, 2, 5, 7] 1 := ⟨_, rfl⟩
  obtain ⟨c, hc⟩ : ∃ a, a = get4 s [6, 2, 5, 7] 2 := ⟨_, rfl⟩
  obtain ⟨d, hd⟩ : ∃ a, a = get4 s [6, 2, 5, 7] 3 := ⟨_, rfl⟩
  obtain ⟨o, ho⟩ : ∃ a, a = getOk s [6, 2, 5, 7] := ⟨_, rfl⟩
  unfold GetPost
  rw [← ha, ← hb, ← hc, ← hd, ← ho]
  have hr := row4 w 23
  have hb0 := (Below.refl w.heap.size w).alloc (Nat.le_refl _) (.cells #[.int .i64 0, .int .i64 0, .int .i64 0, .int .i64 0] 23)
  obtain ⟨W, hW⟩ : ∃ W, W = w.alloc (.cells #[.int .i64 0, .int .i64 0, .int .i64 0, .int .i64 0] 23) := ⟨_, rfl⟩
  rw [← hW] at hr hb0
  have HA := Lib.hid ha
  have HBB := Lib.hid hb
  have HC := Lib.hid hc
  have HD := Lib.hid hd
  have HO := Lib.hid ho
  have HR := Lib.hid hr
  have HB0 := Lib.hid hb0
  have HW := Lib.hid hW
  clear ha hb hc hd ho hr hb0 hW
  go_enter Try.func11, Try.ntmps11
  go_wp2_with fail
  rw [← HW.out]
  refine (placeW_any _).mono ?_
  rintro e w1 ⟨v, rfl, hv, hb1⟩
  obtain ⟨va, vc, hve, hvr⟩ := id hv
  subst hve
  have HV := Lib.hid hv
  have HB1 := Lib.hid hb1
  clear hv hvr hb1
  go_wp2_with fail
  refine (getE_any [6, 2, 5, 7] wide_place s _ _ HV.out).mono ?_
  rintro e w2 ⟨he, hb2⟩
  rw [← HA.out, ← HBB.out, ← HC.out, ← HD.out, ← HO.out] at he
  subst he
  have hb2' := below_on hb2 (below_on HB1.out HB0.out (Nat.le_refl _)) (Nat.le_refl _)
  have hr2 := (HR.out.of_block (HB1.out.block _ HR.out.lt)).of_block (hb2.block _ (Nat.lt_of_lt_of_le HR.out.lt HB1.out.size))
  have HB2 := Lib.hid hb2'
  have hr0 := hr2.cell (i := 0) (by decide)
  have hr1 := hr2.cell (i := 1) (by decide)
  have hr3 := hr2.cell (i := 2) (by decide)
  have hr4 := hr2.cell (i := 3) (by decide)
  have hf0 := hr2.frozen 0
  have hf1 := hr2.frozen 1
  have hf2 := hr2.frozen 2
  have hf3 := hr2.frozen 3
  have HR2 := Lib.hid hr2
  have hlt := hr2.lt
  clear hb2 hb2' hr2
  go_wp2_with fail
  obtain ⟨W4, hW4⟩ : ∃ W, W = (((w2.setCell ⟨w.heap.size, 0, none⟩ (.int .i64 a)).setCell ⟨w.heap.size, 1, none⟩ (.int .i64 b)).setCell ⟨w.heap.size, 2, none⟩ (.int .i64 c)).setCell ⟨w.heap.size, 3, none⟩ (.int .i64 d) := ⟨_, rfl⟩
  have hB4 := below_set4 HB2.out (Nat.le_refl _) hW4
  obtain ⟨e0, e1, e2, e3⟩ := set4 HR2.out _ _ _ _ hW4
  rw [← hW4]
  obtain ⟨W5, hW5⟩ : ∃ W, W = W4.alloc (.cells #[.int .i64 a, .int .i64 b, .int .i64 c, .int .i64 d] 49) := ⟨_, rfl⟩
  have hl4 := World.block_lt_of_cell? _ _ e0
  have g0 : W5.cell? ⟨w.heap.size, 0, none⟩ = some (.int .i64 a) := by rw [hW5, World.cell?_alloc_lt _ _ _ (World.block_lt_of_cell? _ _ e0)]; exact e0
  have g1 : W5.cell? ⟨w.heap.size, 1, none⟩ = some (.int .i64 b) := by rw [hW5, World.cell?_alloc_lt _ _ _ (World.block_lt_of_cell? _ _ e1)]; exact e1
  have g2 : W5.cell? ⟨w.heap.size, 2, none⟩ = some (.int .i64 c) := by rw [hW5, World.cell?_alloc_lt _ _ _ (World.block_lt_of_cell? _ _ e2)]; exact e2
  have g3 : W5.cell? ⟨w.heap.size, 3, none⟩ = some (.int .i64 d) := by rw [hW5, World.cell?_alloc_lt _ _ _ (World.block_lt_of_cell? _ _ e3)]; exact e3
  have hB5 : Below w.heap.size w W5 := by rw [hW5]; exact hB4.alloc hB4.size _
  rw [← hW5]
  refine bodyPost_ret (v := .tuple #[.agg #[.int .i64 a, .int .i64 b, .int .i64 c, .int .i64 d], .bool o]) ?_ rfl ⟨rfl, hB5⟩
  clear hW4 hW5 hB4 hB5 e0 e1 e2 e3 hr0 hr1 hr3 hr4 hf0 hf1 hf2 hf3
  simp [results, Try.results11, go_sem, g0, g1, g2, g3]

set_option maxHeartbeats 1000000 in
theorem linkGet_any (s : ByteArray) (w : World) : Calls Try.prog 12 #[.string s] w (GetPost w s [5, 6, 6, 3]) := by
  obtain ⟨a, ha⟩ : ∃ a, a = get4 s [5, 6, 6, 3] 0 := ⟨_, rfl⟩
  obtain ⟨b, hb⟩ : ∃ a, a = get4 s [5, 6, 6, 3] 1 := ⟨_, rfl⟩
  obtain ⟨c, hc⟩ : ∃ a, a = get4 s [5, 6, 6, 3] 2 := ⟨_, rfl⟩
  obtain ⟨d, hd⟩ : ∃ a, a = get4 s [5, 6, 6, 3] 3 := ⟨_, rfl⟩
  obtain ⟨o, ho⟩ : ∃ a, a = getOk s [5, 6, 6, 3] := ⟨_, rfl⟩
  unfold GetPost
  rw [← ha, ← hb, ← hc, ← hd, ← ho]
  have hr := row4 w 25
  have hb0 := (Below.refl w.heap.size w).alloc (Nat.le_refl _) (.cells #[.int .i64 0, .int .i64 0, .int .i64 0, .int .i64 0] 25)
  obtain ⟨W, hW⟩ : ∃ W, W = w.alloc (.cells #[.int .i64 0, .int .i64 0, .int .i64 0, .int .i64 0] 25) := ⟨_, rfl⟩
  rw [← hW] at hr hb0
  have HA := Lib.hid ha
  have HBB := Lib.hid hb
  have HC := Lib.hid hc
  have HD := Lib.hid hd
  have HO := Lib.hid ho
  have HR := Lib.hid hr
  have HB0 := Lib.hid hb0
  have HW := Lib.hid hW
  clear ha hb hc hd ho hr hb0 hW
  go_enter Try.func12, Try.ntmps12
  go_wp2_with fail
  rw [← HW.out]
  refine (linkW_any _).mono ?_
  rintro e w1 ⟨v, rfl, hv, hb1⟩
  obtain ⟨va, vc, hve, hvr⟩ := id hv
  subst hve
  have HV := Lib.hid hv
  have HB1 := Lib.hid hb1
  clear hv hvr hb1
  go_wp2_with fail
  refine (getE_any [5, 6, 6, 3] wide_link s _ _ HV.out).mono ?_
  rintro e w2 ⟨he, hb2⟩
  rw [← HA.out, ← HBB.out, ← HC.out, ← HD.out, ← HO.out] at he
  subst he
  have hb2' := below_on hb2 (below_on HB1.out HB0.out (Nat.le_refl _)) (Nat.le_refl _)
  have hr2 := (HR.out.of_block (HB1.out.block _ HR.out.lt)).of_block (hb2.block _ (Nat.lt_of_lt_of_le HR.out.lt HB1.out.size))
  have HB2 := Lib.hid hb2'
  have hr0 := hr2.cell (i := 0) (by decide)
  have hr1 := hr2.cell (i := 1) (by decide)
  have hr3 := hr2.cell (i := 2) (by decide)
  have hr4 := hr2.cell (i := 3) (by decide)
  have hf0 := hr2.frozen 0
  have hf1 := hr2.frozen 1
  have hf2 := hr2.frozen 2
  have hf3 := hr2.frozen 3
  have HR2 := Lib.hid hr2
  have hlt := hr2.lt
  clear hb2 hb2' hr2
  go_wp2_with fail
  obtain ⟨W4, hW4⟩ : ∃ W, W = (((w2.setCell ⟨w.heap.size, 0, none⟩ (.int .i64 a)).setCell ⟨w.heap.size, 1, none⟩ (.int .i64 b)).setCell ⟨w.heap.size, 2, none⟩ (.int .i64 c)).setCell ⟨w.heap.size, 3, none⟩ (.int .i64 d) := ⟨_, rfl⟩
  have hB4 := below_set4 HB2.out (Nat.le_refl _) hW4
  obtain ⟨e0, e1, e2, e3⟩ := set4 HR2.out _ _ _ _ hW4
  rw [← hW4]
  obtain ⟨W5, hW5⟩ : ∃ W, W = W4.alloc (.cells #[.int .i64 a, .int .i64 b, .int .i64 c, .int .i64 d] 49) := ⟨_, rfl⟩
  have hl4 := World.block_lt_of_cell? _ _ e0
  have g0 : W5.cell? ⟨w.heap.size, 0, none⟩ = some (.int .i64 a) := by rw [hW5, World.cell?_alloc_lt _ _ _ (World.block_lt_of_cell? _ _ e0)]; exact e0
  have g1 : W5.cell? ⟨w.heap.size, 1, none⟩ = some (.int .i64 b) := by rw [hW5, World.cell?_alloc_lt _ _ _ (World.block_lt_of_cell? _ _ e1)]; exact e1
  have g2 : W5.cell? ⟨w.heap.size, 2, none⟩ = some (.int .i64 c) := by rw [hW5, World.cell?_alloc_lt _ _ _ (World.block_lt_of_cell? _ _ e2)]; exact e2
  have g3 : W5.cell? ⟨w.heap.size, 3, none⟩ = some (.int .i64 d) := by rw [hW5, World.cell?_alloc_lt _ _ _ (World.block_lt_of_cell? _ _ e3)]; exact e3
  have hB5 : Below w.heap.size w W5 := by rw [hW5]; exact hB4.alloc hB4.size _
  rw [← hW5]
  refine bodyPost_ret (v := .tuple #[.agg #[.int .i64 a, .int .i64 b, .int .i64 c, .int .i64 d], .bool o]) ?_ rfl ⟨rfl, hB5⟩
  clear hW4 hW5 hB4 hB5 e0 e1 e2 e3 hr0 hr1 hr3 hr4 hf0 hf1 hf2 hf3
  simp [results, Try.results12, go_sem, g0, g1, g2, g3]

set_option maxHeartbeats 1000000 in
theorem markGet_any (s : ByteArray) (w : World) : Calls Try.prog 13 #[.string s] w (GetPost w s [6, 6, 6, 2]) := by
  obtain ⟨a, ha⟩ : ∃ a, a = get4 s [6, 6, 6, 2] 0 := ⟨_, rfl⟩
  obtain ⟨b, hb⟩ : ∃ a, a = get4 s [6, 6, 6, 2] 1 := ⟨_, rfl⟩
  obtain ⟨c, hc⟩ : ∃ a, a = get4 s [6, 6, 6, 2] 2 := ⟨_, rfl⟩
  obtain ⟨d, hd⟩ : ∃ a, a = get4 s [6, 6, 6, 2] 3 := ⟨_, rfl⟩
  obtain ⟨o, ho⟩ : ∃ a, a = getOk s [6, 6, 6, 2] := ⟨_, rfl⟩
  unfold GetPost
  rw [← ha, ← hb, ← hc, ← hd, ← ho]
  have hr := row4 w 27
  have hb0 := (Below.refl w.heap.size w).alloc (Nat.le_refl _) (.cells #[.int .i64 0, .int .i64 0, .int .i64 0, .int .i64 0] 27)
  obtain ⟨W, hW⟩ : ∃ W, W = w.alloc (.cells #[.int .i64 0, .int .i64 0, .int .i64 0, .int .i64 0] 27) := ⟨_, rfl⟩
  rw [← hW] at hr hb0
  have HA := Lib.hid ha
  have HBB := Lib.hid hb
  have HC := Lib.hid hc
  have HD := Lib.hid hd
  have HO := Lib.hid ho
  have HR := Lib.hid hr
  have HB0 := Lib.hid hb0
  have HW := Lib.hid hW
  clear ha hb hc hd ho hr hb0 hW
  go_enter Try.func13, Try.ntmps13
  go_wp2_with fail
  rw [← HW.out]
  refine (markW_any _).mono ?_
  rintro e w1 ⟨v, rfl, hv, hb1⟩
  obtain ⟨va, vc, hve, hvr⟩ := id hv
  subst hve
  have HV := Lib.hid hv
  have HB1 := Lib.hid hb1
  clear hv hvr hb1
  go_wp2_with fail
  refine (getE_any [6, 6, 6, 2] wide_mark s _ _ HV.out).mono ?_
  rintro e w2 ⟨he, hb2⟩
  rw [← HA.out, ← HBB.out, ← HC.out, ← HD.out, ← HO.out] at he
  subst he
  have hb2' := below_on hb2 (below_on HB1.out HB0.out (Nat.le_refl _)) (Nat.le_refl _)
  have hr2 := (HR.out.of_block (HB1.out.block _ HR.out.lt)).of_block (hb2.block _ (Nat.lt_of_lt_of_le HR.out.lt HB1.out.size))
  have HB2 := Lib.hid hb2'
  have hr0 := hr2.cell (i := 0) (by decide)
  have hr1 := hr2.cell (i := 1) (by decide)
  have hr3 := hr2.cell (i := 2) (by decide)
  have hr4 := hr2.cell (i := 3) (by decide)
  have hf0 := hr2.frozen 0
  have hf1 := hr2.frozen 1
  have hf2 := hr2.frozen 2
  have hf3 := hr2.frozen 3
  have HR2 := Lib.hid hr2
  have hlt := hr2.lt
  clear hb2 hb2' hr2
  go_wp2_with fail
  obtain ⟨W4, hW4⟩ : ∃ W, W = (((w2.setCell ⟨w.heap.size, 0, none⟩ (.int .i64 a)).setCell ⟨w.heap.size, 1, none⟩ (.int .i64 b)).setCell ⟨w.heap.size, 2, none⟩ (.int .i64 c)).setCell ⟨w.heap.size, 3, none⟩ (.int .i64 d) := ⟨_, rfl⟩
  have hB4 := below_set4 HB2.out (Nat.le_refl _) hW4
  obtain ⟨e0, e1, e2, e3⟩ := set4 HR2.out _ _ _ _ hW4
  rw [← hW4]
  obtain ⟨W5, hW5⟩ : ∃ W, W = W4.alloc (.cells #[.int .i64 a, .int .i64 b, .int .i64 c, .int .i64 d] 49) := ⟨_, rfl⟩
  have hl4 := World.block_lt_of_cell? _ _ e0
  have g0 : W5.cell? ⟨w.heap.size, 0, none⟩ = some (.int .i64 a) := by rw [hW5, World.cell?_alloc_lt _ _ _ (World.block_lt_of_cell? _ _ e0)]; exact e0
  have g1 : W5.cell? ⟨w.heap.size, 1, none⟩ = some (.int .i64 b) := by rw [hW5, World.cell?_alloc_lt _ _ _ (World.block_lt_of_cell? _ _ e1)]; exact e1
  have g2 : W5.cell? ⟨w.heap.size, 2, none⟩ = some (.int .i64 c) := by rw [hW5, World.cell?_alloc_lt _ _ _ (World.block_lt_of_cell? _ _ e2)]; exact e2
  have g3 : W5.cell? ⟨w.heap.size, 3, none⟩ = some (.int .i64 d) := by rw [hW5, World.cell?_alloc_lt _ _ _ (World.block_lt_of_cell? _ _ e3)]; exact e3
  have hB5 : Below w.heap.size w W5 := by rw [hW5]; exact hB4.alloc hB4.size _
  rw [← hW5]
  refine bodyPost_ret (v := .tuple #[.agg #[.int .i64 a, .int .i64 b, .int .i64 c, .int .i64 d], .bool o]) ?_ rfl ⟨rfl, hB5⟩
  clear hW4 hW5 hB4 hB5 e0 e1 e2 e3 hr0 hr1 hr3 hr4 hf0 hf1 hf2 hf3
  simp [results, Try.results13, go_sem, g0, g1, g2, g3]
end Go.Proofs.Ytcbjlleigbnogaa
