/-
  The bytes of texts, one behind the other; a list of one or two texts that a call lays.
-/
import Derived.Test.YtdhpemkmfkcadaaDoorWords
namespace Go.Proofs.YtdhpemkmfkcadaaDoor
open Go.RowKit Go.Deep

/-- The bytes of texts, one behind the other. -/
def flatB (ts : List ByteArray) : List UInt8 := ts.flatMap fun t => t.data.toList
theorem flatB_snoc (ts : List ByteArray) {k : Nat} (h : k < ts.length) : flatB (ts.take (k + 1)) = flatB (ts.take k) ++ (ts.getD k ⟨#[]⟩).data.toList := by
  unfold flatB
  rw [take_snoc' ts h, List.flatMap_append]
  simp
theorem flatB_one (t : ByteArray) : flatB [t] = t.data.toList := by simp [flatB]
theorem flatB_two (s t : ByteArray) : flatB [s, t] = s.data.toList ++ t.data.toList := by simp [flatB]

theorem strs_one (w : World) (s : ByteArray) : Strs (w.alloc (.cells #[.string s] 9)) 0 (.slice (some ⟨w.heap.size, 0, none⟩) 1 1) [s] :=
  ⟨some ⟨w.heap.size, 0, none⟩, 1, rfl, .inr ⟨_, _, rfl, Nat.zero_le _, fun i hi => by
    obtain rfl : i = 0 := by simp at hi; exact hi
    simp⟩⟩
theorem strs_two (w : World) (s t : ByteArray) : Strs (w.alloc (.cells #[.string s, .string t] 9)) 0 (.slice (some ⟨w.heap.size, 0, none⟩) 2 2) [s, t] :=
  ⟨some ⟨w.heap.size, 0, none⟩, 2, rfl, .inr ⟨_, _, rfl, Nat.zero_le _, fun i hi => by
    match i, hi with
    | 0, _ => simp
    | 1, _ => simp⟩⟩
theorem flat_add (ts : List ByteArray) {k : Nat} (h : k < ts.length) : (⟨(flatB (ts.take k)).toArray⟩ : ByteArray) ++ ts.getD k ⟨#[]⟩ = ⟨(flatB (ts.take (k + 1))).toArray⟩ := by
  rw [flatB_snoc ts h, ← append_toArray, Array.toArray_toList]
theorem flatB_size (ts : List ByteArray) {t : ByteArray} (h : t ∈ ts) : t.size ≤ (flatB ts).length := by
  unfold flatB
  induction ts with
  | nil => cases h
  | cons a ts ih =>
    rw [List.flatMap_cons, List.length_append]
    rcases List.mem_cons.1 h with rfl | h
    · show t.data.size ≤ _
      rw [Array.length_toList]
      omega
    · have := ih h
      omega
end Go.Proofs.YtdhpemkmfkcadaaDoor
