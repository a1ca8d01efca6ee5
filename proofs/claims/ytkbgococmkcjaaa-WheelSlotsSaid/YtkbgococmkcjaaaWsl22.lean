/- A part. -/
import Derived.Test.YtkbgococmkcjaaaWsl9
import Derived.Test.YtkbgococmkcjaaaWsl21
set_option linter.unusedVariables false
set_option linter.unusedSimpArgs false
namespace Go.Proofs.Ytkbgococmkcjaaa
open Go.RowKit Go.Deep
attribute [local go_sem] fr_opt
theorem wheads_cells {w : World} {base : Nat} {v : Value} {L : List Nat} (h : w.ownsRow base 3 1 v 16 (L.map wNum)) (hl : L.length = 16) :
    ∃ q c, v = .slice (some ⟨q, 0, none⟩) 16 c ∧ base ≤ q ∧ q < w.heap.size ∧ ∀ j, j < 16 → w.cell? ⟨q, j, none⟩ = some (.int .i64 (L.getD j 0 : Nat)) := by
  obtain ⟨q, c, rfl⟩ := wown_slice (n := 15) h
  refine ⟨q, c, rfl, (h.lt q rfl).1, (h.lt q rfl).2, fun j hj => ?_⟩
  have h1 := h.cellAt j (by omega)
  rw [h1, List.getElem?_map, List.getD_eq_getElem?_getD, List.getElem?_eq_getElem (by omega)]
  rfl
end Go.Proofs.Ytkbgococmkcjaaa
