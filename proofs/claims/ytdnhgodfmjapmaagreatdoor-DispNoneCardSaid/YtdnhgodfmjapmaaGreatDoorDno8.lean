/- A part. -/
import Derived.Test.YtdnhgodfmjapmaaGreatDoorDno5
set_option linter.unusedVariables false
set_option linter.unusedSimpArgs false
namespace Go.Proofs.YtdnhgodfmjapmaaGreatDoor
open Go.RowKit Go.Deep
def inL (L : List (Int × Int)) (r : Int) : Bool := L.any fun s => decide (s.1 ≤ r) && decide (r ≤ s.2)
theorem inL_take_none {L : List (Int × Int)} {r : Int} (h : ∀ j, j < L.length → ¬ ((L.getD j (0, 0)).1 ≤ r ∧ r ≤ (L.getD j (0, 0)).2)) : inL L r = false := by
  unfold inL
  rw [List.any_eq_false]
  intro s hs
  obtain ⟨i, hi, rfl⟩ := List.getElem_of_mem hs
  have := h i hi
  simp only [List.getD_eq_getElem?_getD, List.getElem?_eq_getElem hi, Option.getD_some] at this
  simpa using this
theorem inL_at {L : List (Int × Int)} {r : Int} {j : Nat} (hj : j < L.length) (h1 : (L.getD j (0, 0)).1 ≤ r) (h2 : r ≤ (L.getD j (0, 0)).2) : inL L r = true := by
  unfold inL
  rw [List.any_eq_true]
  refine ⟨L[j], List.getElem_mem hj, ?_⟩
  simp only [List.getD_eq_getElem?_getD, List.getElem?_eq_getElem hj, Option.getD_some] at h1 h2
  simpa using ⟨h1, h2⟩
def Spans (w : World) (b : Nat) (L : List (Int × Int)) : Prop :=
  L.length ≤ 1000 ∧ ∃ c o cap, w.cell? ⟨b, 0, none⟩ = some (.slice (some ⟨c, o, none⟩) L.length cap) ∧
    ∀ i, i < L.length → w.cell? ⟨c, o + i * 2, none⟩ = some (.int .i32 (L.getD i (0, 0)).1) ∧ w.cell? ⟨c, o + i * 2 + 1, none⟩ = some (.int .i32 (L.getD i (0, 0)).2)
theorem Spans.lt {w : World} {b : Nat} {L : List (Int × Int)} (h : Spans w b L) : b < w.heap.size := by
  obtain ⟨_, c, o, cap, hc, _⟩ := h
  exact World.block_lt_of_cell? _ _ hc
theorem Spans.below {w w' : World} {b B : Nat} {L : List (Int × Int)} (h : Spans w b L) (hb : Below B w w') (hB : w.heap.size ≤ B) : Spans w' b L := by
  obtain ⟨hl, c, o, cap, hc, hs⟩ := h
  refine ⟨hl, c, o, cap, (hb.cell (Nat.lt_of_lt_of_le (World.block_lt_of_cell? _ _ hc) hB)).trans hc, fun i hi => ?_⟩
  obtain ⟨h1, h2⟩ := hs i hi
  exact ⟨(hb.cell (p := ⟨c, _, none⟩) (Nat.lt_of_lt_of_le (World.block_lt_of_cell? _ _ h1) hB)).trans h1, (hb.cell (p := ⟨c, _, none⟩) (Nat.lt_of_lt_of_le (World.block_lt_of_cell? _ _ h2) hB)).trans h2⟩
set_option maxRecDepth 100000 in
theorem sign_any (L : List (Int × Int)) (b : Nat) (r : Int) (w : World) (h : Spans w b L) :
    Calls Tryz.prog 244 #[.int .i32 r, .pointer (some ⟨b, 0, none⟩)] w fun e w' => e = .returned (.bool (inL L r)) ∧ Below w.heap.size w w' := by
  obtain ⟨hl, c, o, cap, hc, hs⟩ := h
  have HS := Lib.hid hs
  have HC := Lib.hid hc
  clear hs
  go_enter Tryz.func244, Tryz.ntmps244
  go_wp2_with fail
  go_loopw [8] (fun i wr => ∃ k : Nat, k ≤ L.length ∧ i = .int .i64 k ∧ Below w.heap.size w wr ∧ ∀ j, j < k → ¬ ((L.getD j (0, 0)).1 ≤ r ∧ r ≤ (L.getD j (0, 0)).2)) (fun i _ => L.length - (intOf i).toNat)
  case atStart => exact ⟨0, Nat.zero_le _, rfl, Below.refl _ _, fun j hj => by omega⟩
  case round =>
    obtain ⟨k, hk, rfl, hb, hno⟩ := hrel
    have HB := Lib.hid hb
    have HN := Lib.hid hno
    by_cases hlt : k < L.length
    · obtain ⟨h1, h2⟩ := HS.out k hlt
      have g1 := (hb.cell (World.block_lt_of_cell? _ _ h1)).trans h1
      have g2 := (hb.cell (World.block_lt_of_cell? _ _ h2)).trans h2
      obtain ⟨x, hx⟩ : ∃ x, x = (L.getD k (0, 0)).1 := ⟨_, rfl⟩
      obtain ⟨y, hy⟩ : ∃ y, y = (L.getD k (0, 0)).2 := ⟨_, rfl⟩
      rw [← hx] at g1
      rw [← hy] at g2
      have HX := Lib.hid hx
      have HY := Lib.hid hy
      clear hb hno h1 h2 hx hy hc
      go_wp2_with fail
      · go_ret
        have a1 : x ≤ r := by assumption
        have a2 : r ≤ y := by assumption
        rw [HX.out] at a1
        rw [HY.out] at a2
        exact ⟨by rw [inL_at hlt a1 a2]; rfl, (HB.out.alloc HB.out.size _)⟩
      all_goals
        refine ⟨⟨k + 1, by omega, by go_num, HB.out.alloc HB.out.size _, fun j hj => ?_⟩, by simp [intOf]; omega⟩
        by_cases hjk : j = k
        · subst hjk
          rw [← HX.out, ← HY.out]
          omega
        · exact HN.out j (by omega)
    · obtain rfl : k = L.length := by omega
      clear hb hno hc
      go_wp2_with fail
      go_ret
      exact ⟨by rw [inL_take_none HN.out]; rfl, HB.out⟩
end Go.Proofs.YtdnhgodfmjapmaaGreatDoor
