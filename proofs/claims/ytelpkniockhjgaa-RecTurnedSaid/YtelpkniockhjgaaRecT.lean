/-
  Copy; the document's example.
-/
import Derived.Test.YtelpkniockhjgaaRecS
namespace Go.Proofs.Ytelpkniockhjgaa
open Go.RowKit Go.Deep
set_option linter.unusedVariables false
set_option linter.unusedSimpArgs false

set_option maxRecDepth 100000 in
theorem law_awake (w : World) : Calls Try.prog 4 #[] w fun e w' => e = .returned (.bool true) ∧ Below w.heap.size w w' := by
  go_enter Try.func4, Try.ntmps4
  go_wp2_with fail
  refine (fill_yes 3 ⟨#[90, 0, 3]⟩ _ (by omega) (by omega) (by rfl)).mono ?_
  rintro e w1 ⟨rfl, hb⟩
  go_wp2_with fail
  go_ret
  exact ⟨rfl, hb⟩
theorem owns_set {w : World} {base b : Nat} {e : TypeId} {n k : Nat} {v : Value} {xs : List Value} (h : w.ownsRow base e n v k xs) (hb : b < base) (i : Nat) (u : Value) : (w.setCell ⟨b, i, none⟩ u).ownsRow base e n v k xs := by
  obtain ⟨h1, h2⟩ := h
  refine ⟨h1, ?_⟩
  rcases h2 with h2 | ⟨g, cap, cur, rfl, hg, hh, h3⟩
  · exact .inl h2
  · exact .inr ⟨g, cap, cur, rfl, hg, (Below.heap_setCell _ _ _ _ (by show g ≠ b; omega)).trans hh, h3⟩
theorem owns_set10 {w : World} {base P : Nat} {e : TypeId} {n k : Nat} {v : Value} {xs : List Value} (h : w.ownsRow base e n v k xs) (hb : P < base) (c0 c1 c2 c3 c4 c5 c6 c7 c8 c9 : Value) : (set10 w P c0 c1 c2 c3 c4 c5 c6 c7 c8 c9).ownsRow base e n v k xs :=
  owns_set (owns_set (owns_set (owns_set (owns_set (owns_set (owns_set (owns_set (owns_set (owns_set h hb _ _) hb _ _) hb _ _) hb _ _) hb _ _) hb _ _) hb _ _) hb _ _) hb _ _) hb _ _
theorem owns_form {w : World} {base : Nat} {e : TypeId} {n k : Nat} {v : Value} {xs : List Value} (h : w.ownsRow base e n v k xs) : ∃ a l c, v = .slice a l c := by
  rcases h.2 with ⟨rfl, _⟩ | ⟨g, cap, cur, rfl, _⟩
  · exact ⟨_, _, _, rfl⟩
  · exact ⟨_, _, _, rfl⟩
def CopyTo (m : MsgM) (w : World) (e : Ending) (w' : World) : Prop := ∃ vk, e = .returned (m.val vk) ∧ w'.ownsRow (w.heap.size + 2) 9 1 vk m.keys.length (m.keys.map Value.string) ∧ Below w.heap.size w w'
end Go.Proofs.Ytelpkniockhjgaa
