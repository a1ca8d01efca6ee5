/-
  The reach of the texts of a slice that came in.
-/
import Derived.Test.YtkkcnkfglkhhoaaWords
import Derived.SizedLaws
import Derived.SliceStrings
namespace Go.Proofs.Ytkkcnkfglkhhoaa
open Go.RowKit Go.Deep

theorem weightsAll_mem {H : Type} {P : Program} {e : TypeId} {l : List (DataW H)} {d : DataW H} (hd : d ∈ l) {n : Nat} (hn : n ∈ d.weights P e) : n ∈ DataW.weightsAll P e l := by
  induction l with
  | nil => cases hd
  | cons a l ih =>
    rw [DataW.weightsAll, List.mem_append]
    rcases List.mem_cons.1 hd with rfl | h
    · exact .inl hn
    · exact .inr (ih h)
theorem strs_sized {H : Type} {P : Program} {ts : List TypeId} {ds : List (DataW H)} (h : (DataW.weightsEach P ts ds).all (· ≤ reachBytes) = true) {j : Nat} {t e : TypeId} {ss rest : List ByteArray}
    (ht : ts[j]? = some t) (hd : ds[j]? = some (.slice (ChangeShapes.strs ss) (ChangeShapes.strs rest))) (hu : P.underlying t = some (.slice e)) : ∀ s ∈ ss, s.size ≤ 140737488351232 := by
  intro s hs
  have hm : (DataW.lit (.string s.data.toList) : DataW H) ∈ ChangeShapes.strs ss := List.mem_map.2 ⟨s, hs, rfl⟩
  have hn : s.data.toList.length ∈ DataW.weightsAll P e (ChangeShapes.strs (H := H) ss) := weightsAll_mem hm (by simp [DataW.weights])
  have := List.all_eq_true.1 h _ (DataW.weights_mem_each ht hd s.data.toList.length (by
    rw [DataW.weights, hu]
    simp only [List.mem_cons, List.mem_append]
    exact .inr (.inl hn)))
  simp [reachBytes] at this
  exact of_decide_eq_true this
end Go.Proofs.Ytkkcnkfglkhhoaa
