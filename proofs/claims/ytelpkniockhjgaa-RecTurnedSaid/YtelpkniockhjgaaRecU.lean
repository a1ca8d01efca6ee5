/-
  The reference's Same.
-/
import Derived.Test.YtelpkniockhjgaaRecT
namespace Go.Proofs.Ytelpkniockhjgaa
open Go.RowKit Go.Deep
set_option linter.unusedVariables false
set_option linter.unusedSimpArgs false

theorem sameB_no {a b : MsgM} {x : Bool} (hx : sameB a b = x) (h : a ≠ b) : x = false := by
  rw [← hx]
  exact Bool.eq_false_iff.2 fun e => h (sameB_iff.1 e)
theorem sameB_keys {a b : MsgM} {x : Bool} (hx : sameB a b = x) (h : a = b ↔ a.keys = b.keys) : decide (a.keys = b.keys) = x := by
  rw [← hx]
  by_cases e : a.keys = b.keys
  · rw [decide_eq_true e]
    exact (sameB_iff.2 (h.2 e)).symm
  · rw [decide_eq_false e]
    exact (Bool.eq_false_iff.2 fun k => e (h.1 (sameB_iff.1 k))).symm
def RSameTo (x : Bool) (w : World) (e : Ending) (w' : World) : Prop := e = .returned (.bool x) ∧ Below w.heap.size w w'
end Go.Proofs.Ytelpkniockhjgaa
