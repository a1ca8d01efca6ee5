/-
  The contracts of the document's own answers: Plain, Group, Key.
-/
import Derived.Test.YtkkcnkfglkhhoaaNamP
namespace Go.Proofs.Ytkkcnkfglkhhoaa
open Go.RowKit Go.Deep

theorem plain_in {r : Int} : inL plainL r = true ↔ (97 ≤ r ∧ r ≤ 122) ∨ (48 ≤ r ∧ r ≤ 57) ∨ r = 45 := by
  simp [inL, plainL]
  omega
theorem key_in {r : Int} : inL keyL r = true ↔ 33 ≤ r ∧ r ≤ 126 := by
  simp [inL, keyL]
theorem plain_out {r : Int} : inL plainL r = false ↔ ¬ ((97 ≤ r ∧ r ≤ 122) ∨ (48 ≤ r ∧ r ≤ 57) ∨ r = 45) := by
  rw [← plain_in, Bool.not_eq_true]
theorem key_out {r : Int} : inL keyL r = false ↔ ¬ (33 ≤ r ∧ r ≤ 126) := by
  rw [← key_in, Bool.not_eq_true]
theorem all_snoc {L : List (Int × Int)} {s : ByteArray} {k : Nat} (h : ∀ j (h : j < s.size), j < k → inL L (s[j]'h).toNat = true) (hk : k < s.size) (h1 : inL L (s[k]'hk).toNat = true) : ∀ j (h : j < s.size), j < k + 1 → inL L (s[j]'h).toNat = true := fun j hj hjk => by
  by_cases e : j = k
  · subst e; exact h1
  · exact h j hj (by omega)

set_option maxRecDepth 100000 in
theorem refPlain_any (s : ByteArray) (w : World) (hs : s.size ≤ maxLen) : Calls Try.prog 10 #[.string s] w fun e w' => e = .returned (.bool (plainB s)) ∧ w = w' := by
  unfold maxLen at hs
  go_enter Try.func10, Try.ntmps10
  go_wp2_with fail
  go_loop [3] (fun i => ∃ k : Nat, k ≤ s.size ∧ i = .int .i64 k ∧ ∀ j (h : j < s.size), j < k → inL plainL (s[j]'h).toNat = true) (fun i => s.size - (intOf i).toNat)
  case atStart => exact ⟨0, Nat.zero_le _, rfl, fun j h hj => by omega⟩
  case round =>
    obtain ⟨k, hk, rfl, hok⟩ := hrel
    have HOK := Lib.hid hok
    clear hok
    by_cases hlt : k < s.size
    · have hc := s[k].toNat_lt
      by_cases hin : inL plainL s[k].toNat = true
      · have HIN := Lib.hid hin
        rw [plain_in] at hin
        go_wp2_with fail
        all_goals first
          | exact ⟨⟨k + 1, by omega, by go_num, all_snoc HOK.out hlt HIN.out⟩, by simp [intOf]; omega⟩
          | (exfalso; simp only [Bool.not_eq_eq_eq_not, Bool.not_true, Bool.not_false, decide_eq_false_iff_not, decide_eq_true_eq, bne_iff_ne, ne_eq, bne_eq_false_iff_eq] at *; omega)
      · rw [Bool.not_eq_true] at hin
        have HIN := Lib.hid hin
        rw [plain_out] at hin
        go_wp2_with fail
        all_goals first
          | (go_ret; exact ⟨by rw [plainB, okL_at hlt HIN.out]; rfl, rfl⟩)
          | (exfalso; simp only [Bool.not_eq_eq_eq_not, Bool.not_true, Bool.not_false, decide_eq_false_iff_not, decide_eq_true_eq, bne_iff_ne, ne_eq, bne_eq_false_iff_eq] at *; omega)
    · obtain rfl : k = s.size := by omega
      by_cases h1 : 1 ≤ s.size
      · by_cases h2 : s.size ≤ 16
        · go_wp2_with fail
          go_ret
          exact ⟨by rw [plainB, okL_true h1 h2 (fun i h => HOK.out i h h)]; simp; omega, rfl⟩
        · go_wp2_with fail
          go_ret
          exact ⟨by rw [plainB, okL_long h2]; simp; omega, rfl⟩
      · go_wp2_with fail
        go_ret
        exact ⟨by rw [plainB, okL_none h1]; rfl, rfl⟩

set_option maxRecDepth 100000 in
theorem refKey_any (s : ByteArray) (w : World) (hs : s.size ≤ maxLen) : Calls Try.prog 18 #[.string s] w fun e w' => e = .returned (.bool (keyB s)) ∧ w = w' := by
  unfold maxLen at hs
  go_enter Try.func18, Try.ntmps18
  go_wp2_with fail
  go_loop [3] (fun i => ∃ k : Nat, k ≤ s.size ∧ i = .int .i64 k ∧ ∀ j (h : j < s.size), j < k → inL keyL (s[j]'h).toNat = true) (fun i => s.size - (intOf i).toNat)
  case atStart => exact ⟨0, Nat.zero_le _, rfl, fun j h hj => by omega⟩
  case round =>
    obtain ⟨k, hk, rfl, hok⟩ := hrel
    have HOK := Lib.hid hok
    clear hok
    by_cases hlt : k < s.size
    · have hc := s[k].toNat_lt
      by_cases hin : inL keyL s[k].toNat = true
      · have HIN := Lib.hid hin
        rw [key_in] at hin
        obtain ⟨g1, g2⟩ := hin
        go_wp2_with fail
        exact ⟨⟨k + 1, by omega, by go_num, all_snoc HOK.out hlt HIN.out⟩, by simp [intOf]; omega⟩
      · rw [Bool.not_eq_true] at hin
        have HIN := Lib.hid hin
        rw [key_out] at hin
        go_wp2_with fail
        all_goals first
          | (go_ret; exact ⟨by rw [keyB, okL_at hlt HIN.out]; rfl, rfl⟩)
          | (exfalso; simp only [Bool.not_eq_eq_eq_not, Bool.not_true, Bool.not_false, decide_eq_false_iff_not, decide_eq_true_eq, bne_iff_ne, ne_eq, bne_eq_false_iff_eq] at *; omega)
    · obtain rfl : k = s.size := by omega
      by_cases h1 : 1 ≤ s.size
      · by_cases h2 : s.size ≤ 16
        · go_wp2_with fail
          go_ret
          exact ⟨by rw [keyB, okL_true h1 h2 (fun i h => HOK.out i h h)]; simp; omega, rfl⟩
        · go_wp2_with fail
          go_ret
          exact ⟨by rw [keyB, okL_long h2]; simp; omega, rfl⟩
      · go_wp2_with fail
        go_ret
        exact ⟨by rw [keyB, okL_none h1]; rfl, rfl⟩

theorem group_of (s : ByteArray) : groupB s = (plainB s && decide (s.size ≤ 8)) := by
  unfold groupB plainB okL
  by_cases h : s.size ≤ 8
  · simp [h, show s.size ≤ 16 by omega]
  · simp [h]

theorem refGroup_any (s : ByteArray) (w : World) (hs : s.size ≤ maxLen) : Calls Try.prog 12 #[.string s] w fun e w' => e = .returned (.bool (groupB s)) ∧ w = w' := by
  have HG := Lib.hid (group_of s)
  obtain ⟨p, hp⟩ : ∃ p, p = plainB s := ⟨_, rfl⟩
  have HP := Lib.hid hp
  have hs' := hs
  unfold maxLen at hs'
  rw [← hp] at HG
  clear hp
  cases p
  all_goals
    go_enter Try.func12, Try.ntmps12
    go_wp2_with fail
    refine (refPlain_any s _ hs).mono ?_
    rintro e w1 ⟨rfl, rfl⟩
    rw [← HP.out]
    go_wp2_with fail
    all_goals go_ret
    all_goals exact ⟨by rw [HG.out]; simp <;> omega, rfl⟩
end Go.Proofs.Ytkkcnkfglkhhoaa
