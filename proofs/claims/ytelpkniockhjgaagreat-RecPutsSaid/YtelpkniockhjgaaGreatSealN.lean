/-
  What is sealed is opened; with one byte turned it is not; just what is sealed is opened.
-/
import Derived.Test.YtelpkniockhjgaaGreatCrcOpen
namespace Go.Proofs.YtelpkniockhjgaaGreat.Cr
open Go.RowKit Go.Deep

theorem numB4_inj {x y : Nat} (hx : x < 4294967296) (hy : y < 4294967296) (h : numB 4 x = numB 4 y) : x = y := by
  simp only [numB, List.cons.injEq, Nat.reducePow, Nat.div_one, and_true] at h
  obtain ⟨h0, h1, h2, h3⟩ := h
  have e0 := congrArg UInt8.toNat h0
  have e1 := congrArg UInt8.toNat h1
  have e2 := congrArg UInt8.toNat h2
  have e3 := congrArg UInt8.toNat h3
  simp only [UInt8.toNat_ofNat'] at e0 e1 e2 e3
  omega
theorem list_of (l : List UInt8) : (⟨l.toArray⟩ : ByteArray).data.toList = l := rfl
theorem size_of (l : List UInt8) : (⟨l.toArray⟩ : ByteArray).size = l.length := rfl
theorem openB_def (s : ByteArray) : openB s = true ↔ 4 ≤ s.data.toList.length ∧ s.data.toList.take 4 = numB 4 (crcL (s.data.toList.drop 4)) := by
  unfold openB
  rw [decide_eq_true_eq]
  rfl
theorem sealB_length (s : ByteArray) : (sealB s).length = 4 + s.size := by
  unfold sealB
  rw [List.length_append, numB_length]
  rfl
theorem sealB_take (s : ByteArray) : (sealB s).take 4 = numB 4 (crcL s.data.toList) := by
  unfold sealB
  rw [List.take_left' (numB_length 4 _)]
theorem sealB_drop (s : ByteArray) : (sealB s).drop 4 = s.data.toList := by
  unfold sealB
  rw [List.drop_left' (numB_length 4 _)]
theorem sealed_opens (s : ByteArray) : openB ⟨(sealB s).toArray⟩ = true := by
  rw [openB_def, list_of, sealB_take, sealB_drop, sealB_length]
  exact ⟨by omega, rfl⟩
theorem sealed_back (s : ByteArray) : openS ⟨(sealB s).toArray⟩ = s := by
  rw [openS, sealed_opens, if_pos rfl]
  apply ByteArray.ext
  apply Array.toList_inj.1
  rw [drop_list, list_of, sealB_drop]
theorem set_ne {l : List UInt8} {i : Nat} {c : UInt8} (hi : i < l.length) (hc : c ≠ l[i]) : ∃ p q : List UInt8, l = p ++ l[i] :: q ∧ l.set i c = p ++ c :: q := by
  refine ⟨l.take i, l.drop (i + 1), ?_, ?_⟩
  · rw [← List.drop_eq_getElem_cons hi, List.take_append_drop]
  · rw [List.set_eq_take_append_cons_drop, if_pos hi]
theorem sealB_low (s : ByteArray) (i : Nat) (hi : i < (sealB s).length) (hl : i < (numB 4 (crcL s.data.toList)).length) : (sealB s)[i] = (numB 4 (crcL s.data.toList))[i] := List.getElem_append_left hl
theorem sealB_high (s : ByteArray) (j : Nat) (hi : j + 4 < (sealB s).length) (hj : j < s.data.toList.length) : (sealB s)[j + 4] = s.data.toList[j] := by
  have h : (sealB s)[j + 4]? = s.data.toList[j]? := by
    unfold sealB
    rw [List.getElem?_append_right (by rw [numB_length]; omega), numB_length, Nat.add_sub_cancel]
  rw [List.getElem?_eq_getElem hi, List.getElem?_eq_getElem hj] at h
  exact Option.some.inj h
theorem turned_not (s : ByteArray) (i : Nat) (c : UInt8) (hi : i < (sealB s).length) (hc : c ≠ (sealB s)[i]) : openB ⟨((sealB s).set i c).toArray⟩ = false := by
  rw [Bool.eq_false_iff]
  intro h
  rw [openB_def, list_of] at h
  obtain ⟨_, h⟩ := h
  by_cases h4 : i < 4
  · rw [List.drop_set_of_lt h4, sealB_drop, List.take_set, sealB_take] at h
    have hl : i < (numB 4 (crcL s.data.toList)).length := by rw [numB_length]; exact h4
    have h1 : ((numB 4 (crcL s.data.toList)).set i c)[i]'(by simpa using hl) = (numB 4 (crcL s.data.toList))[i] := by simp only [h]
    rw [List.getElem_set_self] at h1
    apply hc
    rw [h1, sealB_low s i hi hl]
  · obtain ⟨j, rfl⟩ : ∃ j, i = j + 4 := ⟨i - 4, by omega⟩
    rw [List.take_set_of_le (by omega), sealB_take] at h
    have hd : ((sealB s).set (j + 4) c).drop 4 = s.data.toList.set j c := by
      rw [List.drop_set, if_neg (by omega), sealB_drop, Nat.add_sub_cancel]
    rw [hd] at h
    have hj : j < s.data.toList.length := by
      have := sealB_length s
      have : s.data.toList.length = s.size := rfl
      omega
    have hc2 : c ≠ s.data.toList[j] := by
      intro e
      apply hc
      rw [e, sealB_high s j hi hj]
    obtain ⟨p, q, h1, h2⟩ := set_ne hj hc2
    have e := numB4_inj (crcL_lt _) (crcL_lt _) h
    rw [h2] at e
    have h3 : crcL s.data.toList = crcL (p ++ s.data.toList[j] :: q) := congrArg crcL h1
    rw [h3] at e
    exact hc2 (crcL_turned p q _ _ e).symm
theorem not_opened {s : ByteArray} (h : openB s = false) : openS s = ⟨#[]⟩ := by rw [openS, h, if_neg (by decide)]
theorem opened {s : ByteArray} (h : openB s = true) : openS s = s.extract 4 s.size := by rw [openS, h, if_pos rfl]
/-- Just what is sealed is opened. -/
theorem opens_iff {s : ByteArray} (h4 : 4 ≤ s.size) : openB s = true ↔ (⟨(sealB (s.extract 4 s.size)).toArray⟩ : ByteArray) = s := by
  rw [openB_def]
  constructor
  · rintro ⟨_, h⟩
    apply ByteArray.ext
    apply Array.toList_inj.1
    rw [list_of, sealB, drop_list, ← h, List.take_append_drop]
  · intro h
    have e : s.data.toList = sealB (s.extract 4 s.size) := by
      have := congrArg (fun x : ByteArray => x.data.toList) h
      exact this.symm
    refine ⟨h4, ?_⟩
    rw [e, sealB_take, sealB_drop]
end Go.Proofs.YtelpkniockhjgaaGreat.Cr
