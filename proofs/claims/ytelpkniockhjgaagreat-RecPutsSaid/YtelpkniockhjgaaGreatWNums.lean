/-
  OctetNums, walked: true for every input; only new memory is written.
-/
import Derived.Test.YtelpkniockhjgaaGreatIn
namespace Go.Proofs.YtelpkniockhjgaaGreat.Oc
open Go.RowKit Go.Deep

theorem IntsOf.below {k : IntKind} {w w' : World} {v : Value} {zs : List Int} {B : Nat} (h : IntsOf k w v zs) (hb : Below B w w') (hB : w.heap.size ≤ B) : IntsOf k w' v zs := by
  obtain ⟨a, cap, rfl, h⟩ := h
  refine ⟨a, cap, rfl, ?_⟩
  rcases h with h | ⟨b, o, rfl, h⟩
  · exact .inl h
  · refine .inr ⟨b, o, rfl, fun i hi => ?_⟩
    have hlt := World.block_lt_of_cell? _ _ (h i hi)
    exact (hb.cell (p := ⟨b, o + i, none⟩) (Nat.lt_of_lt_of_le hlt hB)).trans (h i hi)

theorem IntsOf.cellAt {k : IntKind} {w : World} {a : Option Addr} {len cap : Nat} {zs : List Int} (h : IntsOf k w (.slice a len cap) zs) {i : Nat} (hi : i < zs.length) : ∃ b o, a = some ⟨b, o, none⟩ ∧ len = zs.length ∧ w.cell? ⟨b, o + i, none⟩ = some (.int k (zs.getD i 0)) := by
  obtain ⟨a', cap', e, h⟩ := h
  cases e
  rcases h with h | ⟨b, o, rfl, h⟩
  · subst h; simp at hi
  · exact ⟨b, o, rfl, rfl, h i hi⟩

theorem append_toArray (a b : List UInt8) : (⟨a.toArray⟩ : ByteArray) ++ ⟨b.toArray⟩ = ⟨(a ++ b).toArray⟩ := by
  apply ByteArray.ext
  simp

end Go.Proofs.YtelpkniockhjgaaGreat.Oc
