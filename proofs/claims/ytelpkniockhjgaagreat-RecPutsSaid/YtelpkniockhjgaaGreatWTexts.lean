/-
  OctetTexts, walked, where no text is too long: true for every such input; only new memory is written.
-/
import Derived.Test.YtelpkniockhjgaaGreatTexts
import Derived.Deep.DeepCutAuto
namespace Go.Proofs.YtelpkniockhjgaaGreat.Oc
open Go.RowKit Go.Deep

theorem mem_getD {ts : List ByteArray} {k : Nat} (h : k < ts.length) : ts.getD k ⟨#[]⟩ ∈ ts := by
  simp [List.getD_eq_getElem?_getD, List.getElem?_eq_getElem h]
theorem all_snoc {ts : List ByteArray} {k n : Nat} (h : k < ts.length) (ha : ∀ t ∈ ts.take k, t.size ≤ n) (hx : (ts.getD k ⟨#[]⟩).size ≤ n) : ∀ t ∈ ts.take (k + 1), t.size ≤ n := by
  intro t hm
  rw [take_snoc' ts h, List.mem_append] at hm
  rcases hm with hm | hm
  · exact ha t hm
  · rw [List.mem_singleton] at hm
    rw [hm]; exact hx
theorem flat_drop (ts : List ByteArray) (k : Nat) (h : k < ts.length) (r : List UInt8) : (ts.drop k).flatMap txtB ++ r = txtB (ts.getD k ⟨#[]⟩) ++ ((ts.drop (k + 1)).flatMap txtB ++ r) := by
  rw [List.drop_eq_getElem_cons h, List.flatMap_cons, List.append_assoc, List.getD_eq_getElem?_getD, List.getElem?_eq_getElem h]
  rfl
theorem flat_small (ts : List ByteArray) (h : ∀ t ∈ ts, t.size ≤ 1000) : (ts.flatMap txtB).length ≤ 1002 * ts.length := by
  induction ts with
  | nil => simp
  | cons t ts ih =>
    rw [List.flatMap_cons, List.length_append, txtB_length, List.length_cons]
    have := ih fun x hx => h x (List.mem_cons_of_mem _ hx)
    have := h t List.mem_cons_self
    omega

end Go.Proofs.YtelpkniockhjgaaGreat.Oc
