/- A part. -/
import Derived.Test.YtdnhgodfmjapmaaGreatDoorDon13
import Derived.Test.YtdnhgodfmjapmaaGreatDoorDon43
set_option linter.unusedVariables false
set_option linter.unusedSimpArgs false
namespace Go.Proofs.YtdnhgodfmjapmaaGreatDoor
open Go.RowKit Go.Deep
def headL (t : List UInt8) (q : Nat) : List UInt8 := 113 :: 45 :: (t ++ 46 :: UInt8.ofNat (48 + q) :: [45])
def headQ (t : ByteArray) (q : Nat) : ByteArray := ⟨(headL t.data.toList q).toArray⟩
theorem headQ_data (t : ByteArray) (q : Nat) : (headQ t q).data.toList = headL t.data.toList q := by simp [headQ]
theorem headQ_size (t : ByteArray) (q : Nat) : (headQ t q).size = t.size + 5 := by
  show (headQ t q).data.size = t.data.size + 5
  rw [← Array.length_toList, headQ_data, ← Array.length_toList]
  simp [headL]
theorem sep_eq : ∀ {a b x y : List UInt8}, 46 ∉ a → 46 ∉ b → a ++ 46 :: x = b ++ 46 :: y → a = b ∧ x = y
  | [], [], x, y, _, _, h => ⟨rfl, by simpa using h⟩
  | [], c :: b, x, y, _, hb, h => by
    simp only [List.nil_append, List.cons_append, List.cons.injEq] at h
    exact absurd (h.1 ▸ List.mem_cons_self ..) hb
  | c :: a, [], x, y, ha, _, h => by
    simp only [List.nil_append, List.cons_append, List.cons.injEq] at h
    exact absurd (h.1 ▸ List.mem_cons_self ..) ha
  | c :: a, d :: b, x, y, ha, hb, h => by
    simp only [List.cons_append, List.cons.injEq] at h
    obtain ⟨h1, h2⟩ := sep_eq (fun hx => ha (List.mem_cons_of_mem _ hx)) (fun hx => hb (List.mem_cons_of_mem _ hx)) h.2
    exact ⟨by rw [h.1, h1], h2⟩
theorem digit_inj {p q : Nat} (hp : p < 10) (hq : q < 10) (h : UInt8.ofNat (48 + p) = UInt8.ofNat (48 + q)) : p = q := by
  have := congrArg UInt8.toNat h
  simp at this
  omega
theorem prefix_app {p l : List UInt8} (h : Lib.hasPrefix l p = true) : ∃ r, l = p ++ r := by
  unfold Lib.hasPrefix at h
  obtain ⟨r, hr⟩ := List.isPrefixOf_iff_prefix.1 h
  exact ⟨r, hr.symm⟩
theorem heads_unlike {s t nm : ByteArray} {p q : Nat} (hs : 46 ∉ s.data.toList) (ht : 46 ∉ t.data.toList) (hp : p < 10) (hq : q < 10) (hne : ¬ (s = t ∧ p = q)) (h : Lib.hasPrefix nm.data.toList (headQ s p).data.toList = true) : Lib.hasPrefix nm.data.toList (headQ t q).data.toList = false := by
  cases hx : Lib.hasPrefix nm.data.toList (headQ t q).data.toList with
  | false => rfl
  | true =>
    exfalso
    obtain ⟨r1, h1⟩ := prefix_app h
    obtain ⟨r2, h2⟩ := prefix_app hx
    rw [h1, headQ_data, headQ_data] at h2
    unfold headL at h2
    simp only [List.cons_append, List.cons.injEq, true_and, List.append_assoc] at h2
    obtain ⟨e1, e2⟩ := sep_eq hs ht h2
    simp only [List.cons.injEq] at e2
    exact hne ⟨ByteArray.ext (Array.toList_inj.1 e1), digit_inj hp hq e2.1⟩
theorem plain_no_point {L : List (Int × Int)} {n : Nat} {s : ByteArray} (h : okL L n s = true) (hL : inL L 46 = false) : 46 ∉ s.data.toList := by
  unfold okL at h
  simp only [Bool.and_eq_true, List.all_eq_true] at h
  intro hx
  have := h.2 46 hx
  rw [show ((46 : UInt8).toNat : Int) = 46 from rfl, hL] at this
  cases this
theorem topic_small {s : ByteArray} (h : topicB s = true) : 46 ∉ s.data.toList ∧ s.size ≤ 16 := by
  have key : ∀ g : ByteArray, 46 ∉ g.data.toList → (∀ x ∈ g.data.toList, x ≠ 46) := fun g hg x hx e => hg (e ▸ hx)
  have hown : ∀ hd : ByteArray, hd.size ≤ 8 → 46 ∉ hd.data.toList → ownB s hd = true → 46 ∉ s.data.toList ∧ s.size ≤ 16 := fun hd h8 hp ho => by
    unfold ownB at ho
    simp only [Bool.and_eq_true] at ho
    obtain ⟨ho1, ho2⟩ := ho
    have hg := group_some ho2
    have hgp := plain_no_point (L := plainL) ho2 (by decide)
    have hle := has_le ho1
    have hsz : (s.extract hd.size s.size).size = s.size - hd.size := by simp
    have hdt : s.data.toList = s.data.toList.take hd.size ++ (s.extract hd.size s.size).data.toList := by
      have e : (s.extract hd.size s.size).data.toList = s.data.toList.drop hd.size := by
        rw [ByteArray.data_extract, Array.toList_extract, List.extract_eq_take_drop, List.take_of_length_le]
        rw [List.length_drop, Array.length_toList]
        exact Nat.le_refl _
      rw [e, List.take_append_drop]
    have htk : s.data.toList.take hd.size = hd.data.toList := by
      rw [has_long hle] at ho1
      have e := eq_of_beq ho1
      rw [ByteArray.toList_eq, ByteArray.toList_eq] at e
      simpa using e
    refine ⟨?_, by omega⟩
    rw [hdt, htk]
    intro hx
    rcases List.mem_append.1 hx with hx | hx
    · exact hp hx
    · exact hgp hx
  unfold topicB isOwn at h
  simp only [Bool.or_eq_true] at h
  rcases h with (h | h) | h
  · exact hown retryH (by decide) (by decide) h
  · exact hown deadH (by decide) (by decide) h
  · refine ⟨plain_no_point (L := plainL) h (by decide), ?_⟩
    unfold plainB okL at h
    simp only [Bool.and_eq_true, decide_eq_true_eq] at h
    exact h.1.2
end Go.Proofs.YtdnhgodfmjapmaaGreatDoor
