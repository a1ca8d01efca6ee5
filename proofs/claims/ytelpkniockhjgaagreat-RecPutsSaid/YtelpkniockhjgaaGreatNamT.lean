/-
  The contracts of Topic, Tag, Retry, Dead.
-/
import Derived.Test.YtelpkniockhjgaaGreatNamO
namespace Go.Proofs.YtelpkniockhjgaaGreat
open Go.RowKit Go.Deep

theorem group_some {s : ByteArray} (h : groupB s = true) : 1 ≤ s.size ∧ s.size ≤ 8 := by
  have := okL_iff.1 h
  exact ⟨this.1, this.2.1⟩
theorem own_some {s h : ByteArray} (k : ownB s h = true) : 1 ≤ (s.extract h.size s.size).size := by
  unfold ownB at k
  rw [Bool.and_eq_true] at k
  exact (group_some k.2).1
/-- Whose group is there is the broker's own. -/
theorem isOwn_of (s : ByteArray) : (!(ofB s).toList.isEmpty) = isOwn s := by
  unfold isOwn ofB
  cases h1 : ownB s retryH
  · cases h2 : ownB s deadH
    · rw [if_neg (by decide), if_neg (by decide)]; simp [empty_of (s := ⟨#[]⟩) (by decide)]
    · rw [if_neg (by decide), if_pos rfl, some_of (s := s.extract 6 s.size) (own_some (h := deadH) h2)]; rfl
  · rw [if_pos rfl, some_of (s := s.extract 7 s.size) (own_some (h := retryH) h1)]; rfl
def topicB (s : ByteArray) : Bool := isOwn s || plainB s
def tagB (s : ByteArray) : Bool := s.toList.isEmpty || plainB s

theorem topic_any (s : ByteArray) (w : World) (hs : s.size ≤ maxLen) : Calls Tryz.prog 44 #[.string s] w fun e w' => e = .returned (.bool (topicB s)) ∧ Below w.heap.size w w' := by
  obtain ⟨g, hg⟩ : ∃ g, g = ofB s := ⟨_, rfl⟩
  have HG := Lib.hid hg
  clear hg
  cases ho : isOwn s
  · have HO := Lib.hid ho
    have HT : Hid (topicB s = plainB s) := Lib.hid (by unfold topicB; rw [ho]; rfl)
    clear ho
    go_enter Tryz.func44, Tryz.ntmps44
    go_wp2_with fail
    refine (of_any s _ hs).mono ?_
    rintro e w1 ⟨rfl, hb⟩
    rw [HO.out, ← HG.out]
    have HB := Lib.hid hb
    clear hb
    go_wp2_with fail
    refine (plain_any s _ hs).mono ?_
    rintro e w2 ⟨rfl, hb⟩
    have HB2 := Lib.hid (HB.out.trans (hb.mono HB.out.size))
    rw [← HT.out]
    clear hb
    go_wp2_with fail
    go_ret
    exact ⟨rfl, HB2.out⟩
  · have HO := Lib.hid ho
    have HT : Hid (topicB s = true) := Lib.hid (by unfold topicB; rw [ho]; rfl)
    clear ho
    go_enter Tryz.func44, Tryz.ntmps44
    go_wp2_with fail
    refine (of_any s _ hs).mono ?_
    rintro e w1 ⟨rfl, hb⟩
    rw [HO.out, ← HG.out]
    have HB := Lib.hid hb
    clear hb
    go_wp2_with fail
    go_ret
    exact ⟨by rw [HT.out]; rfl, HB.out⟩

theorem tag_any (s : ByteArray) (w : World) (hs : s.size ≤ maxLen) : Calls Tryz.prog 45 #[.string s] w fun e w' => e = .returned (.bool (tagB s)) ∧ Below w.heap.size w w' := by
  by_cases h1 : 1 ≤ s.size
  · have he := some_of h1
    have HT : Hid (tagB s = plainB s) := Lib.hid (by unfold tagB; rw [he]; rfl)
    go_enter Tryz.func45, Tryz.ntmps45
    go_wp2_with fail
    refine (plain_any s _ hs).mono ?_
    rintro e w2 ⟨rfl, hb⟩
    rw [← HT.out]
    have HB := Lib.hid hb
    clear hb
    go_wp2_with fail
    go_ret
    exact ⟨rfl, HB.out⟩
  · have he := empty_of h1
    have HT : Hid (tagB s = true) := Lib.hid (by unfold tagB; rw [he]; rfl)
    go_enter Tryz.func45, Tryz.ntmps45
    go_wp2_with fail
    go_ret
    exact ⟨by rw [HT.out]; rfl, Below.refl _ _⟩

theorem group_of (s : ByteArray) : groupB s = (plainB s && decide (s.size ≤ 8)) := by
  unfold groupB plainB okL
  by_cases h : s.size ≤ 8
  · simp [h, show s.size ≤ 16 by omega]
  · simp [h]

theorem own_no {s h : ByteArray} (k : hasB s h = false) : ownB s h = false := by unfold ownB; rw [k, Bool.false_and]
theorem own_has {s h : ByteArray} (k : hasB s h = true) {g : Bool} (hg : groupB (s.extract h.size s.size) = g) : ownB s h = g := by unfold ownB; rw [k, Bool.true_and, hg]
theorem of_retry {s : ByteArray} (h : ownB s retryH = true) : ofB s = s.extract 7 s.size := by unfold ofB; rw [if_pos h]
theorem of_dead {s : ByteArray} (h : ownB s retryH = false) (k : ownB s deadH = true) : ofB s = s.extract 6 s.size := by
  unfold ofB; rw [if_neg (by rw [h]; decide), if_pos k]
theorem of_none {s : ByteArray} (h : ownB s retryH = false) (k : ownB s deadH = false) : ofB s = ⟨#[]⟩ := by
  unfold ofB; rw [if_neg (by rw [h]; decide), if_neg (by rw [k]; decide)]

end Go.Proofs.YtelpkniockhjgaaGreat
