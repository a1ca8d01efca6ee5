/-
  The contracts of the document's own answers: Plain, Group, Key, has, Tag, Of, Topic, Hash.
-/
import Derived.Test.YtelpkniockhjgaaGreatNamM
import Derived.Test.YtelpkniockhjgaaGreatNamH
namespace Go.Proofs.YtelpkniockhjgaaGreat
open Go.RowKit Go.Deep

theorem plain_in {r : Int} : inL plainL r = true ↔ (97 ≤ r ∧ r ≤ 122) ∨ (48 ≤ r ∧ r ≤ 57) ∨ r = 45 := by
  simp [inL, plainL]
  omega
theorem key_in {r : Int} : inL keyL r = true ↔ 33 ≤ r ∧ r ≤ 126 := by
  simp [inL, keyL]
theorem plain_out {r : Int} : inL plainL r = false ↔ ¬ ((97 ≤ r ∧ r ≤ 122) ∨ (48 ≤ r ∧ r ≤ 57) ∨ r = 45) := by
  rw [← plain_in, Bool.not_eq_true]
theorem key_out {r : Int} : inL keyL r = false ↔ ¬ (33 ≤ r ∧ r ≤ 126) := by
  rw [← key_in, Bool.not_eq_true]
theorem all_snoc {L : List (Int × Int)} {s : ByteArray} {k : Nat} (h : ∀ j (h : j < s.size), j < k → inL L (s[j]'h).toNat = true) (hk : k < s.size) (h1 : inL L (s[k]'hk).toNat = true) : ∀ j (h : j < s.size), j < k + 1 → inL L (s[j]'h).toNat = true := fun j hj hjk => by
  by_cases e : j = k
  · subst e; exact h1
  · exact h j hj (by omega)

set_option maxRecDepth 100000 in
theorem refPlain_any (s : ByteArray) (w : World) (hs : s.size ≤ maxLen) : Calls Tryz.prog 61 #[.string s] w fun e w' => e = .returned (.bool (plainB s)) ∧ w = w' := by
  unfold maxLen at hs
  go_enter Tryz.func61, Tryz.ntmps61
  go_wp2_with fail
  go_loop [3] (fun i => ∃ k : Nat, k ≤ s.size ∧ i = .int .i64 k ∧ ∀ j (h : j < s.size), j < k → inL plainL (s[j]'h).toNat = true) (fun i => s.size - (intOf i).toNat)
  case atStart => exact ⟨0, Nat.zero_le _, rfl, fun j h hj => by omega⟩
  case round =>
    obtain ⟨k, hk, rfl, hok⟩ := hrel
    have HOK := Lib.hid hok
    clear hok
    by_cases hlt : k < s.size
    · have hc := s[k].toNat_lt
      by_cases hin : inL plainL s[k].toNat = true
      · have HIN := Lib.hid hin
        rw [plain_in] at hin
        go_wp2_with fail
        all_goals first
          | exact ⟨⟨k + 1, by omega, by go_num, all_snoc HOK.out hlt HIN.out⟩, by simp [intOf]; omega⟩
          | (exfalso; simp only [Bool.not_eq_eq_eq_not, Bool.not_true, Bool.not_false, decide_eq_false_iff_not, decide_eq_true_eq, bne_iff_ne, ne_eq, bne_eq_false_iff_eq] at *; omega)
      · rw [Bool.not_eq_true] at hin
        have HIN := Lib.hid hin
        rw [plain_out] at hin
        go_wp2_with fail
        all_goals first
          | (go_ret; exact ⟨by rw [plainB, okL_at hlt HIN.out]; rfl, rfl⟩)
          | (exfalso; simp only [Bool.not_eq_eq_eq_not, Bool.not_true, Bool.not_false, decide_eq_false_iff_not, decide_eq_true_eq, bne_iff_ne, ne_eq, bne_eq_false_iff_eq] at *; omega)
    · obtain rfl : k = s.size := by omega
      by_cases h1 : 1 ≤ s.size
      · by_cases h2 : s.size ≤ 16
        · go_wp2_with fail
          go_ret
          exact ⟨by rw [plainB, okL_true h1 h2 (fun i h => HOK.out i h h)]; simp; omega, rfl⟩
        · go_wp2_with fail
          go_ret
          exact ⟨by rw [plainB, okL_long h2]; simp; omega, rfl⟩
      · go_wp2_with fail
        go_ret
        exact ⟨by rw [plainB, okL_none h1]; rfl, rfl⟩

set_option maxRecDepth 100000 in
theorem refKey_any (s : ByteArray) (w : World) (hs : s.size ≤ maxLen) : Calls Tryz.prog 42 #[.string s] w fun e w' => e = .returned (.bool (keyB s)) ∧ w = w' := by
  unfold maxLen at hs
  go_enter Tryz.func42, Tryz.ntmps42
  go_wp2_with fail
  go_loop [3] (fun i => ∃ k : Nat, k ≤ s.size ∧ i = .int .i64 k ∧ ∀ j (h : j < s.size), j < k → inL keyL (s[j]'h).toNat = true) (fun i => s.size - (intOf i).toNat)
  case atStart => exact ⟨0, Nat.zero_le _, rfl, fun j h hj => by omega⟩
  case round =>
    obtain ⟨k, hk, rfl, hok⟩ := hrel
    have HOK := Lib.hid hok
    clear hok
    by_cases hlt : k < s.size
    · have hc := s[k].toNat_lt
      by_cases hin : inL keyL s[k].toNat = true
      · have HIN := Lib.hid hin
        rw [key_in] at hin
        obtain ⟨g1, g2⟩ := hin
        go_wp2_with fail
        exact ⟨⟨k + 1, by omega, by go_num, all_snoc HOK.out hlt HIN.out⟩, by simp [intOf]; omega⟩
      · rw [Bool.not_eq_true] at hin
        have HIN := Lib.hid hin
        rw [key_out] at hin
        go_wp2_with fail
        all_goals first
          | (go_ret; exact ⟨by rw [keyB, okL_at hlt HIN.out]; rfl, rfl⟩)
          | (exfalso; simp only [Bool.not_eq_eq_eq_not, Bool.not_true, Bool.not_false, decide_eq_false_iff_not, decide_eq_true_eq, bne_iff_ne, ne_eq, bne_eq_false_iff_eq] at *; omega)
    · obtain rfl : k = s.size := by omega
      by_cases h1 : 1 ≤ s.size
      · by_cases h2 : s.size ≤ 16
        · go_wp2_with fail
          go_ret
          exact ⟨by rw [keyB, okL_true h1 h2 (fun i h => HOK.out i h h)]; simp; omega, rfl⟩
        · go_wp2_with fail
          go_ret
          exact ⟨by rw [keyB, okL_long h2]; simp; omega, rfl⟩
      · go_wp2_with fail
        go_ret
        exact ⟨by rw [keyB, okL_none h1]; rfl, rfl⟩

theorem refGroup_any (s : ByteArray) (w : World) (hs : s.size ≤ maxLen) : Calls Tryz.prog 85 #[.string s] w fun e w' => e = .returned (.bool (groupB s)) ∧ w = w' := by
  have HG := Lib.hid (group_of s)
  obtain ⟨p, hp⟩ : ∃ p, p = plainB s := ⟨_, rfl⟩
  have HP := Lib.hid hp
  have hs' := hs
  unfold maxLen at hs'
  rw [← hp] at HG
  clear hp
  cases p
  all_goals
    go_enter Tryz.func85, Tryz.ntmps85
    go_wp2_with fail
    refine (refPlain_any s _ hs).mono ?_
    rintro e w1 ⟨rfl, rfl⟩
    rw [← HP.out]
    go_wp2_with fail
    all_goals go_ret
    all_goals exact ⟨by rw [HG.out]; simp <;> omega, rfl⟩
set_option maxRecDepth 100000 in
theorem has_any (s h : ByteArray) (w : World) (hs : s.size ≤ maxLen) (hh : h.size ≤ maxLen) : Calls Tryz.prog 84 #[.string s, .string h] w fun e w' => e = .returned (.bool (hasB s h)) ∧ w = w' := by
  unfold maxLen at hs hh
  by_cases k : h.size ≤ s.size
  · go_enter Tryz.func84, Tryz.ntmps84
    go_wp2_with fail
    go_ret
    exact ⟨by rw [has_long k]; rfl, rfl⟩
  · go_enter Tryz.func84, Tryz.ntmps84
    go_wp2_with fail
    go_ret
    exact ⟨by rw [has_short k]; rfl, rfl⟩

theorem refTag_any (s : ByteArray) (w : World) (hs : s.size ≤ maxLen) : Calls Tryz.prog 41 #[.string s] w fun e w' => e = .returned (.bool (tagB s)) ∧ w = w' := by
  by_cases h1 : 1 ≤ s.size
  · have he := some_of h1
    have HT : Hid (tagB s = plainB s) := Lib.hid (by unfold tagB; rw [he]; rfl)
    go_enter Tryz.func41, Tryz.ntmps41
    go_wp2_with fail
    refine (refPlain_any s _ hs).mono ?_
    rintro e w2 ⟨rfl, rfl⟩
    rw [← HT.out]
    go_wp2_with fail
    go_ret
    exact ⟨rfl, rfl⟩
  · have he := empty_of h1
    have HT : Hid (tagB s = true) := Lib.hid (by unfold tagB; rw [he]; rfl)
    go_enter Tryz.func41, Tryz.ntmps41
    go_wp2_with fail
    go_ret
    exact ⟨by rw [HT.out]; rfl, rfl⟩

set_option maxHeartbeats 1000000 in
theorem refOf_no (s : ByteArray) (w : World) (hs : s.size ≤ maxLen) (h1 : hasB s retryH = false) : Calls Tryz.prog 62 #[.string s] w fun e w' => e = .returned (.string (ofB s)) ∧ w = w' := by
  have hs' := hs
  unfold maxLen at hs'
  have H1 := Lib.hid h1
  have HR := Lib.hid (own_no h1)
  clear h1
  cases h2 : hasB s deadH
  · have H2 := Lib.hid h2
    have HF := Lib.hid (of_none HR.out (own_no h2))
    clear h2
    go_enter Tryz.func62, Tryz.ntmps62
    go_wp2_with fail
    refine (has_any s retryH _ hs (by decide)).mono ?_
    rintro e w1 ⟨rfl, rfl⟩
    rw [H1.out]
    go_wp2_with fail
    refine (has_any s deadH _ hs (by decide)).mono ?_
    rintro e w1 ⟨rfl, rfl⟩
    rw [H2.out]
    go_wp2_with fail
    go_ret
    exact ⟨by rw [HF.out]; rfl, rfl⟩
  · have hle := has_le h2
    change 6 ≤ s.size at hle
    have htl6 : (s.extract 6 s.size).size ≤ maxLen := Nat.le_trans (extract_le s 6) hs
    have H2 := Lib.hid h2
    cases hg2 : groupB (s.extract 6 s.size)
    · have HF := Lib.hid (of_none HR.out (own_has h2 hg2))
      have HG2 := Lib.hid hg2
      clear h2 hg2
      go_enter Tryz.func62, Tryz.ntmps62
      go_wp2_with fail
      refine (has_any s retryH _ hs (by decide)).mono ?_
      rintro e w1 ⟨rfl, rfl⟩
      rw [H1.out]
      go_wp2_with fail
      refine (has_any s deadH _ hs (by decide)).mono ?_
      rintro e w1 ⟨rfl, rfl⟩
      rw [H2.out]
      go_wp2_with fail
      refine (refGroup_any (s.extract 6 s.size) _ htl6).mono ?_
      rintro e w1 ⟨rfl, rfl⟩
      rw [HG2.out]
      go_wp2_with fail
      go_ret
      exact ⟨by rw [HF.out]; rfl, rfl⟩
    · have HF := Lib.hid (of_dead HR.out (own_has h2 hg2))
      have HG2 := Lib.hid hg2
      clear h2 hg2
      go_enter Tryz.func62, Tryz.ntmps62
      go_wp2_with fail
      refine (has_any s retryH _ hs (by decide)).mono ?_
      rintro e w1 ⟨rfl, rfl⟩
      rw [H1.out]
      go_wp2_with fail
      refine (has_any s deadH _ hs (by decide)).mono ?_
      rintro e w1 ⟨rfl, rfl⟩
      rw [H2.out]
      go_wp2_with fail
      refine (refGroup_any (s.extract 6 s.size) _ htl6).mono ?_
      rintro e w1 ⟨rfl, rfl⟩
      rw [HG2.out]
      go_wp2_with fail
      go_ret
      exact ⟨by rw [HF.out]; rfl, rfl⟩

set_option maxHeartbeats 1000000 in
theorem refOf_has (s : ByteArray) (w : World) (hs : s.size ≤ maxLen) (h1 : hasB s retryH = true) (hg : groupB (s.extract 7 s.size) = false) : Calls Tryz.prog 62 #[.string s] w fun e w' => e = .returned (.string (ofB s)) ∧ w = w' := by
  have hs' := hs
  unfold maxLen at hs'
  have hle7 := has_le h1
  change 7 ≤ s.size at hle7
  have htl : (s.extract 7 s.size).size ≤ maxLen := Nat.le_trans (extract_le s 7) hs
  have H1 := Lib.hid h1
  have HG := Lib.hid hg
  have HR : Hid (ownB s retryH = false) := Lib.hid (own_has h1 hg)
  clear h1 hg
  cases h2 : hasB s deadH
  · have H2 := Lib.hid h2
    have HF := Lib.hid (of_none HR.out (own_no h2))
    clear h2
    go_enter Tryz.func62, Tryz.ntmps62
    go_wp2_with fail
    refine (has_any s retryH _ hs (by decide)).mono ?_
    rintro e w1 ⟨rfl, rfl⟩
    rw [H1.out]
    go_wp2_with fail
    refine (refGroup_any (s.extract 7 s.size) _ htl).mono ?_
    rintro e w1 ⟨rfl, rfl⟩
    rw [HG.out]
    go_wp2_with fail
    refine (has_any s deadH _ hs (by decide)).mono ?_
    rintro e w1 ⟨rfl, rfl⟩
    rw [H2.out]
    go_wp2_with fail
    go_ret
    exact ⟨by rw [HF.out]; rfl, rfl⟩
  · have hle := has_le h2
    change 6 ≤ s.size at hle
    have htl6 : (s.extract 6 s.size).size ≤ maxLen := Nat.le_trans (extract_le s 6) hs
    have H2 := Lib.hid h2
    cases hg2 : groupB (s.extract 6 s.size)
    · have HF := Lib.hid (of_none HR.out (own_has h2 hg2))
      have HG2 := Lib.hid hg2
      clear h2 hg2
      go_enter Tryz.func62, Tryz.ntmps62
      go_wp2_with fail
      refine (has_any s retryH _ hs (by decide)).mono ?_
      rintro e w1 ⟨rfl, rfl⟩
      rw [H1.out]
      go_wp2_with fail
      refine (refGroup_any (s.extract 7 s.size) _ htl).mono ?_
      rintro e w1 ⟨rfl, rfl⟩
      rw [HG.out]
      go_wp2_with fail
      refine (has_any s deadH _ hs (by decide)).mono ?_
      rintro e w1 ⟨rfl, rfl⟩
      rw [H2.out]
      go_wp2_with fail
      refine (refGroup_any (s.extract 6 s.size) _ htl6).mono ?_
      rintro e w1 ⟨rfl, rfl⟩
      rw [HG2.out]
      go_wp2_with fail
      go_ret
      exact ⟨by rw [HF.out]; rfl, rfl⟩
    · have HF := Lib.hid (of_dead HR.out (own_has h2 hg2))
      have HG2 := Lib.hid hg2
      clear h2 hg2
      go_enter Tryz.func62, Tryz.ntmps62
      go_wp2_with fail
      refine (has_any s retryH _ hs (by decide)).mono ?_
      rintro e w1 ⟨rfl, rfl⟩
      rw [H1.out]
      go_wp2_with fail
      refine (refGroup_any (s.extract 7 s.size) _ htl).mono ?_
      rintro e w1 ⟨rfl, rfl⟩
      rw [HG.out]
      go_wp2_with fail
      refine (has_any s deadH _ hs (by decide)).mono ?_
      rintro e w1 ⟨rfl, rfl⟩
      rw [H2.out]
      go_wp2_with fail
      refine (refGroup_any (s.extract 6 s.size) _ htl6).mono ?_
      rintro e w1 ⟨rfl, rfl⟩
      rw [HG2.out]
      go_wp2_with fail
      go_ret
      exact ⟨by rw [HF.out]; rfl, rfl⟩

theorem refOf_any (s : ByteArray) (w : World) (hs : s.size ≤ maxLen) : Calls Tryz.prog 62 #[.string s] w fun e w' => e = .returned (.string (ofB s)) ∧ w = w' := by
  have hs' := hs
  unfold maxLen at hs'
  cases h1 : hasB s retryH
  · exact refOf_no s w hs h1
  · cases hg : groupB (s.extract 7 s.size)
    · exact refOf_has s w hs h1 hg
    · have hle := has_le h1
      change 7 ≤ s.size at hle
      have htl : (s.extract 7 s.size).size ≤ maxLen := Nat.le_trans (extract_le s 7) hs
      have H1 := Lib.hid h1
      have HF := Lib.hid (of_retry (own_has h1 hg))
      have HG := Lib.hid hg
      clear h1 hg
      go_enter Tryz.func62, Tryz.ntmps62
      go_wp2_with fail
      refine (has_any s retryH _ hs (by decide)).mono ?_
      rintro e w1 ⟨rfl, rfl⟩
      rw [H1.out]
      go_wp2_with fail
      refine (refGroup_any (s.extract 7 s.size) _ htl).mono ?_
      rintro e w1 ⟨rfl, rfl⟩
      rw [HG.out]
      go_wp2_with fail
      go_ret
      exact ⟨by rw [HF.out]; rfl, rfl⟩

theorem refTopic_any (s : ByteArray) (w : World) (hs : s.size ≤ maxLen) : Calls Tryz.prog 40 #[.string s] w fun e w' => e = .returned (.bool (topicB s)) ∧ w = w' := by
  cases hp : plainB s
  · have HP := Lib.hid hp
    obtain ⟨g, hg⟩ : ∃ g, g = ofB s := ⟨_, rfl⟩
    have hT : topicB s = !g.toList.isEmpty := by unfold topicB; rw [hp, Bool.or_false, hg, isOwn_of]
    have HG := Lib.hid hg
    have HT := Lib.hid hT
    clear hp hg hT
    go_enter Tryz.func40, Tryz.ntmps40
    go_wp2_with fail
    refine (refPlain_any s _ hs).mono ?_
    rintro e w1 ⟨rfl, rfl⟩
    rw [HP.out]
    go_wp2_with fail
    refine (refOf_any s _ hs).mono ?_
    rintro e w1 ⟨rfl, rfl⟩
    rw [← HG.out]
    go_wp2_with fail
    go_ret
    exact ⟨by rw [HT.out]; rfl, rfl⟩
  · have HP := Lib.hid hp
    have HT : Hid (topicB s = true) := Lib.hid (by unfold topicB; rw [hp, Bool.or_true])
    clear hp
    go_enter Tryz.func40, Tryz.ntmps40
    go_wp2_with fail
    refine (refPlain_any s _ hs).mono ?_
    rintro e w1 ⟨rfl, rfl⟩
    rw [HP.out]
    go_wp2_with fail
    go_ret
    exact ⟨by rw [HT.out]; rfl, rfl⟩
end Go.Proofs.YtelpkniockhjgaaGreat
