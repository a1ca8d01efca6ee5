/-
  The contracts of Topic, Tag, Retry, Dead, and of the document's own Of, Topic, Tag.
-/
import Derived.Test.YtkkcnkfglkhhoaaNamO
namespace Go.Proofs.Ytkkcnkfglkhhoaa
open Go.RowKit Go.Deep

theorem group_some {s : ByteArray} (h : groupB s = true) : 1 ≤ s.size ∧ s.size ≤ 8 := by
  have := okL_iff.1 h
  exact ⟨this.1, this.2.1⟩
theorem own_some {s h : ByteArray} (k : ownB s h = true) : 1 ≤ (s.extract h.size s.size).size := by
  unfold ownB at k
  rw [Bool.and_eq_true] at k
  exact (group_some k.2).1
/-- Whose group is there is the broker's own. -/
theorem isOwn_of (s : ByteArray) : (!(ofB s).toList.isEmpty) = isOwn s := by
  unfold isOwn ofB
  cases h1 : ownB s retryH
  · cases h2 : ownB s deadH
    · rw [if_neg (by decide), if_neg (by decide)]; simp [empty_of (s := ⟨#[]⟩) (by decide)]
    · rw [if_neg (by decide), if_pos rfl, some_of (s := s.extract 6 s.size) (own_some (h := deadH) h2)]; rfl
  · rw [if_pos rfl, some_of (s := s.extract 7 s.size) (own_some (h := retryH) h1)]; rfl
def topicB (s : ByteArray) : Bool := isOwn s || plainB s
def tagB (s : ByteArray) : Bool := s.toList.isEmpty || plainB s

theorem topic_any (s : ByteArray) (w : World) (hs : s.size ≤ maxLen) : Calls Try.prog 13 #[.string s] w fun e w' => e = .returned (.bool (topicB s)) ∧ Below w.heap.size w w' := by
  obtain ⟨g, hg⟩ : ∃ g, g = ofB s := ⟨_, rfl⟩
  have HG := Lib.hid hg
  clear hg
  cases ho : isOwn s
  · have HO := Lib.hid ho
    have HT : Hid (topicB s = plainB s) := Lib.hid (by unfold topicB; rw [ho]; rfl)
    clear ho
    go_enter Try.func13, Try.ntmps13
    go_wp2_with fail
    refine (of_any s _ hs).mono ?_
    rintro e w1 ⟨rfl, hb⟩
    rw [HO.out, ← HG.out]
    have HB := Lib.hid hb
    clear hb
    go_wp2_with fail
    refine (plain_any s _ hs).mono ?_
    rintro e w2 ⟨rfl, hb⟩
    have HB2 := Lib.hid (HB.out.trans (hb.mono HB.out.size))
    rw [← HT.out]
    clear hb
    go_wp2_with fail
    go_ret
    exact ⟨rfl, HB2.out⟩
  · have HO := Lib.hid ho
    have HT : Hid (topicB s = true) := Lib.hid (by unfold topicB; rw [ho]; rfl)
    clear ho
    go_enter Try.func13, Try.ntmps13
    go_wp2_with fail
    refine (of_any s _ hs).mono ?_
    rintro e w1 ⟨rfl, hb⟩
    rw [HO.out, ← HG.out]
    have HB := Lib.hid hb
    clear hb
    go_wp2_with fail
    go_ret
    exact ⟨by rw [HT.out]; rfl, HB.out⟩

theorem tag_any (s : ByteArray) (w : World) (hs : s.size ≤ maxLen) : Calls Try.prog 15 #[.string s] w fun e w' => e = .returned (.bool (tagB s)) ∧ Below w.heap.size w w' := by
  by_cases h1 : 1 ≤ s.size
  · have he := some_of h1
    have HT : Hid (tagB s = plainB s) := Lib.hid (by unfold tagB; rw [he]; rfl)
    go_enter Try.func15, Try.ntmps15
    go_wp2_with fail
    refine (plain_any s _ hs).mono ?_
    rintro e w2 ⟨rfl, hb⟩
    rw [← HT.out]
    have HB := Lib.hid hb
    clear hb
    go_wp2_with fail
    go_ret
    exact ⟨rfl, HB.out⟩
  · have he := empty_of h1
    have HT : Hid (tagB s = true) := Lib.hid (by unfold tagB; rw [he]; rfl)
    go_enter Try.func15, Try.ntmps15
    go_wp2_with fail
    go_ret
    exact ⟨by rw [HT.out]; rfl, Below.refl _ _⟩

theorem refTag_any (s : ByteArray) (w : World) (hs : s.size ≤ maxLen) : Calls Try.prog 16 #[.string s] w fun e w' => e = .returned (.bool (tagB s)) ∧ w = w' := by
  by_cases h1 : 1 ≤ s.size
  · have he := some_of h1
    have HT : Hid (tagB s = plainB s) := Lib.hid (by unfold tagB; rw [he]; rfl)
    go_enter Try.func16, Try.ntmps16
    go_wp2_with fail
    refine (refPlain_any s _ hs).mono ?_
    rintro e w2 ⟨rfl, rfl⟩
    rw [← HT.out]
    go_wp2_with fail
    go_ret
    exact ⟨rfl, rfl⟩
  · have he := empty_of h1
    have HT : Hid (tagB s = true) := Lib.hid (by unfold tagB; rw [he]; rfl)
    go_enter Try.func16, Try.ntmps16
    go_wp2_with fail
    go_ret
    exact ⟨by rw [HT.out]; rfl, rfl⟩

theorem ownF_any (h s : ByteArray) (x : Bool) (w : World) (hs : s.size ≤ maxLen) (hh : h.size ≤ 100) (hx : groupB s = x) :
    Calls Try.prog 30 #[.string h, .string s] w fun e w' => e = .returned (.string (if x then h ++ s else ⟨#[]⟩)) ∧ Below w.heap.size w w' := by
  have HX := Lib.hid hx
  cases x
  · clear hx
    go_enter Try.func30, Try.ntmps30
    go_wp2_with fail
    refine (group_any s _ hs).mono ?_
    rintro e w2 ⟨rfl, hb⟩
    rw [HX.out]
    have HB := Lib.hid hb
    clear hb
    go_wp2_with fail
    go_ret
    exact ⟨rfl, HB.out⟩
  · have h8 := (group_some hx).2
    clear hx
    go_enter Try.func30, Try.ntmps30
    go_wp2_with fail
    refine (group_any s _ hs).mono ?_
    rintro e w2 ⟨rfl, hb⟩
    rw [HX.out]
    have HB := Lib.hid hb
    clear hb
    go_wp2_with fail
    go_ret
    exact ⟨rfl, HB.out⟩

theorem retry_any (s t : ByteArray) (x : Bool) (w : World) (hs : s.size ≤ maxLen) (hx : groupB s = x) (ht : (if x then retryH ++ s else ⟨#[]⟩) = t) :
    Calls Try.prog 20 #[.string s] w fun e w' => e = .returned (.string t) ∧ Below w.heap.size w w' := by
  have HX := Lib.hid hx
  have HT := Lib.hid ht
  clear hx ht
  go_enter Try.func20, Try.ntmps20
  go_wp2_with fail
  refine (ownF_any retryH s x _ hs (by decide) HX.out).mono ?_
  rintro e w2 ⟨rfl, hb⟩
  rw [HT.out]
  have HB := Lib.hid hb
  clear hb
  go_wp2_with fail
  go_ret
  exact ⟨rfl, HB.out⟩

theorem dead_any (s t : ByteArray) (x : Bool) (w : World) (hs : s.size ≤ maxLen) (hx : groupB s = x) (ht : (if x then deadH ++ s else ⟨#[]⟩) = t) :
    Calls Try.prog 21 #[.string s] w fun e w' => e = .returned (.string t) ∧ Below w.heap.size w w' := by
  have HX := Lib.hid hx
  have HT := Lib.hid ht
  clear hx ht
  go_enter Try.func21, Try.ntmps21
  go_wp2_with fail
  refine (ownF_any deadH s x _ hs (by decide) HX.out).mono ?_
  rintro e w2 ⟨rfl, hb⟩
  rw [HT.out]
  have HB := Lib.hid hb
  clear hb
  go_wp2_with fail
  go_ret
  exact ⟨rfl, HB.out⟩

theorem own_no {s h : ByteArray} (k : hasB s h = false) : ownB s h = false := by unfold ownB; rw [k, Bool.false_and]
theorem own_has {s h : ByteArray} (k : hasB s h = true) {g : Bool} (hg : groupB (s.extract h.size s.size) = g) : ownB s h = g := by unfold ownB; rw [k, Bool.true_and, hg]
theorem of_retry {s : ByteArray} (h : ownB s retryH = true) : ofB s = s.extract 7 s.size := by unfold ofB; rw [if_pos h]
theorem of_dead {s : ByteArray} (h : ownB s retryH = false) (k : ownB s deadH = true) : ofB s = s.extract 6 s.size := by
  unfold ofB; rw [if_neg (by rw [h]; decide), if_pos k]
theorem of_none {s : ByteArray} (h : ownB s retryH = false) (k : ownB s deadH = false) : ofB s = ⟨#[]⟩ := by
  unfold ofB; rw [if_neg (by rw [h]; decide), if_neg (by rw [k]; decide)]

set_option maxHeartbeats 1000000 in
theorem refOf_no (s : ByteArray) (w : World) (hs : s.size ≤ maxLen) (h1 : hasB s retryH = false) : Calls Try.prog 19 #[.string s] w fun e w' => e = .returned (.string (ofB s)) ∧ w = w' := by
  have hs' := hs
  unfold maxLen at hs'
  have H1 := Lib.hid h1
  have HR := Lib.hid (own_no h1)
  clear h1
  cases h2 : hasB s deadH
  · have H2 := Lib.hid h2
    have HF := Lib.hid (of_none HR.out (own_no h2))
    clear h2
    go_enter Try.func19, Try.ntmps19
    go_wp2_with fail
    refine (has_any s retryH _ hs (by decide)).mono ?_
    rintro e w1 ⟨rfl, rfl⟩
    rw [H1.out]
    go_wp2_with fail
    refine (has_any s deadH _ hs (by decide)).mono ?_
    rintro e w1 ⟨rfl, rfl⟩
    rw [H2.out]
    go_wp2_with fail
    go_ret
    exact ⟨by rw [HF.out]; rfl, rfl⟩
  · have hle := has_le h2
    change 6 ≤ s.size at hle
    have htl6 : (s.extract 6 s.size).size ≤ maxLen := Nat.le_trans (extract_le s 6) hs
    have H2 := Lib.hid h2
    cases hg2 : groupB (s.extract 6 s.size)
    · have HF := Lib.hid (of_none HR.out (own_has h2 hg2))
      have HG2 := Lib.hid hg2
      clear h2 hg2
      go_enter Try.func19, Try.ntmps19
      go_wp2_with fail
      refine (has_any s retryH _ hs (by decide)).mono ?_
      rintro e w1 ⟨rfl, rfl⟩
      rw [H1.out]
      go_wp2_with fail
      refine (has_any s deadH _ hs (by decide)).mono ?_
      rintro e w1 ⟨rfl, rfl⟩
      rw [H2.out]
      go_wp2_with fail
      refine (refGroup_any (s.extract 6 s.size) _ htl6).mono ?_
      rintro e w1 ⟨rfl, rfl⟩
      rw [HG2.out]
      go_wp2_with fail
      go_ret
      exact ⟨by rw [HF.out]; rfl, rfl⟩
    · have HF := Lib.hid (of_dead HR.out (own_has h2 hg2))
      have HG2 := Lib.hid hg2
      clear h2 hg2
      go_enter Try.func19, Try.ntmps19
      go_wp2_with fail
      refine (has_any s retryH _ hs (by decide)).mono ?_
      rintro e w1 ⟨rfl, rfl⟩
      rw [H1.out]
      go_wp2_with fail
      refine (has_any s deadH _ hs (by decide)).mono ?_
      rintro e w1 ⟨rfl, rfl⟩
      rw [H2.out]
      go_wp2_with fail
      refine (refGroup_any (s.extract 6 s.size) _ htl6).mono ?_
      rintro e w1 ⟨rfl, rfl⟩
      rw [HG2.out]
      go_wp2_with fail
      go_ret
      exact ⟨by rw [HF.out]; rfl, rfl⟩

set_option maxHeartbeats 1000000 in
theorem refOf_has (s : ByteArray) (w : World) (hs : s.size ≤ maxLen) (h1 : hasB s retryH = true) (hg : groupB (s.extract 7 s.size) = false) : Calls Try.prog 19 #[.string s] w fun e w' => e = .returned (.string (ofB s)) ∧ w = w' := by
  have hs' := hs
  unfold maxLen at hs'
  have hle7 := has_le h1
  change 7 ≤ s.size at hle7
  have htl : (s.extract 7 s.size).size ≤ maxLen := Nat.le_trans (extract_le s 7) hs
  have H1 := Lib.hid h1
  have HG := Lib.hid hg
  have HR : Hid (ownB s retryH = false) := Lib.hid (own_has h1 hg)
  clear h1 hg
  cases h2 : hasB s deadH
  · have H2 := Lib.hid h2
    have HF := Lib.hid (of_none HR.out (own_no h2))
    clear h2
    go_enter Try.func19, Try.ntmps19
    go_wp2_with fail
    refine (has_any s retryH _ hs (by decide)).mono ?_
    rintro e w1 ⟨rfl, rfl⟩
    rw [H1.out]
    go_wp2_with fail
    refine (refGroup_any (s.extract 7 s.size) _ htl).mono ?_
    rintro e w1 ⟨rfl, rfl⟩
    rw [HG.out]
    go_wp2_with fail
    refine (has_any s deadH _ hs (by decide)).mono ?_
    rintro e w1 ⟨rfl, rfl⟩
    rw [H2.out]
    go_wp2_with fail
    go_ret
    exact ⟨by rw [HF.out]; rfl, rfl⟩
  · have hle := has_le h2
    change 6 ≤ s.size at hle
    have htl6 : (s.extract 6 s.size).size ≤ maxLen := Nat.le_trans (extract_le s 6) hs
    have H2 := Lib.hid h2
    cases hg2 : groupB (s.extract 6 s.size)
    · have HF := Lib.hid (of_none HR.out (own_has h2 hg2))
      have HG2 := Lib.hid hg2
      clear h2 hg2
      go_enter Try.func19, Try.ntmps19
      go_wp2_with fail
      refine (has_any s retryH _ hs (by decide)).mono ?_
      rintro e w1 ⟨rfl, rfl⟩
      rw [H1.out]
      go_wp2_with fail
      refine (refGroup_any (s.extract 7 s.size) _ htl).mono ?_
      rintro e w1 ⟨rfl, rfl⟩
      rw [HG.out]
      go_wp2_with fail
      refine (has_any s deadH _ hs (by decide)).mono ?_
      rintro e w1 ⟨rfl, rfl⟩
      rw [H2.out]
      go_wp2_with fail
      refine (refGroup_any (s.extract 6 s.size) _ htl6).mono ?_
      rintro e w1 ⟨rfl, rfl⟩
      rw [HG2.out]
      go_wp2_with fail
      go_ret
      exact ⟨by rw [HF.out]; rfl, rfl⟩
    · have HF := Lib.hid (of_dead HR.out (own_has h2 hg2))
      have HG2 := Lib.hid hg2
      clear h2 hg2
      go_enter Try.func19, Try.ntmps19
      go_wp2_with fail
      refine (has_any s retryH _ hs (by decide)).mono ?_
      rintro e w1 ⟨rfl, rfl⟩
      rw [H1.out]
      go_wp2_with fail
      refine (refGroup_any (s.extract 7 s.size) _ htl).mono ?_
      rintro e w1 ⟨rfl, rfl⟩
      rw [HG.out]
      go_wp2_with fail
      refine (has_any s deadH _ hs (by decide)).mono ?_
      rintro e w1 ⟨rfl, rfl⟩
      rw [H2.out]
      go_wp2_with fail
      refine (refGroup_any (s.extract 6 s.size) _ htl6).mono ?_
      rintro e w1 ⟨rfl, rfl⟩
      rw [HG2.out]
      go_wp2_with fail
      go_ret
      exact ⟨by rw [HF.out]; rfl, rfl⟩

theorem refOf_any (s : ByteArray) (w : World) (hs : s.size ≤ maxLen) : Calls Try.prog 19 #[.string s] w fun e w' => e = .returned (.string (ofB s)) ∧ w = w' := by
  have hs' := hs
  unfold maxLen at hs'
  cases h1 : hasB s retryH
  · exact refOf_no s w hs h1
  · cases hg : groupB (s.extract 7 s.size)
    · exact refOf_has s w hs h1 hg
    · have hle := has_le h1
      change 7 ≤ s.size at hle
      have htl : (s.extract 7 s.size).size ≤ maxLen := Nat.le_trans (extract_le s 7) hs
      have H1 := Lib.hid h1
      have HF := Lib.hid (of_retry (own_has h1 hg))
      have HG := Lib.hid hg
      clear h1 hg
      go_enter Try.func19, Try.ntmps19
      go_wp2_with fail
      refine (has_any s retryH _ hs (by decide)).mono ?_
      rintro e w1 ⟨rfl, rfl⟩
      rw [H1.out]
      go_wp2_with fail
      refine (refGroup_any (s.extract 7 s.size) _ htl).mono ?_
      rintro e w1 ⟨rfl, rfl⟩
      rw [HG.out]
      go_wp2_with fail
      go_ret
      exact ⟨by rw [HF.out]; rfl, rfl⟩

theorem refTopic_any (s : ByteArray) (w : World) (hs : s.size ≤ maxLen) : Calls Try.prog 14 #[.string s] w fun e w' => e = .returned (.bool (topicB s)) ∧ w = w' := by
  cases hp : plainB s
  · have HP := Lib.hid hp
    obtain ⟨g, hg⟩ : ∃ g, g = ofB s := ⟨_, rfl⟩
    have hT : topicB s = !g.toList.isEmpty := by unfold topicB; rw [hp, Bool.or_false, hg, isOwn_of]
    have HG := Lib.hid hg
    have HT := Lib.hid hT
    clear hp hg hT
    go_enter Try.func14, Try.ntmps14
    go_wp2_with fail
    refine (refPlain_any s _ hs).mono ?_
    rintro e w1 ⟨rfl, rfl⟩
    rw [HP.out]
    go_wp2_with fail
    refine (refOf_any s _ hs).mono ?_
    rintro e w1 ⟨rfl, rfl⟩
    rw [← HG.out]
    go_wp2_with fail
    go_ret
    exact ⟨by rw [HT.out]; rfl, rfl⟩
  · have HP := Lib.hid hp
    have HT : Hid (topicB s = true) := Lib.hid (by unfold topicB; rw [hp, Bool.or_true])
    clear hp
    go_enter Try.func14, Try.ntmps14
    go_wp2_with fail
    refine (refPlain_any s _ hs).mono ?_
    rintro e w1 ⟨rfl, rfl⟩
    rw [HP.out]
    go_wp2_with fail
    go_ret
    exact ⟨by rw [HT.out]; rfl, rfl⟩
end Go.Proofs.Ytkkcnkfglkhhoaa
