/- A part. -/
import Derived.Deep.Grids
import Derived.Lib.SmallJoins
import Derived.Test.YtemimmnamajooaaGreatOpl29
set_option linter.unusedVariables false
set_option linter.unusedSimpArgs false
namespace Go.Proofs.YtemimmnamajooaaGreat
open Go.Joins Go.RowKit Go.Deep
open Go.ChangeShapes Go.WideShapes
instance : Inhabited OfM := ⟨⟨⟨#[]⟩, ⟨#[]⟩, 0, 0⟩⟩
theorem wf_in {a : Int} (h : (Lit.int .i64 a).wf = true) : a ≤ 9223372036854775807 ∧ -9223372036854775808 ≤ a := by
  have h2 : IntKind.i64.min ≤ a ∧ a ≤ IntKind.i64.max := by simpa [Lit.wf] using h
  have h3 : IntKind.i64.max = 9223372036854775807 := rfl
  have h4 : IntKind.i64.min = -9223372036854775808 := rfl
  omega
section
variable {H : Type} {enc : TypeId × Value → H} {W : World}
theorem ubools_open {n : Nat} {v : Value} {y : DataW H × List MemPlace} (h : DataW.trod enc Tryz.prog W 0 (fun _ => true) true n 33 [v] = some y) : ∃ zs, BoolsOf W v zs ∧ zs.length ≤ maxLen ∧ True := by
  rcases open_bools Tryz.underlying33 Tryz.underlying4 (by kernel_rfl) h with ⟨hcs, _⟩ | ⟨a, l, c, B, hcs, _, hl, hm, _, hcell⟩
  · obtain rfl : v = _ := List.singleton_inj.1 hcs
    exact ⟨[], ⟨none, 0, rfl, .inl rfl⟩, Nat.zero_le _, trivial⟩
  · obtain rfl : v = _ := List.singleton_inj.1 hcs
    refine ⟨(List.range l).map B, ⟨some a, c, by simp, ?_⟩, by simp; omega, trivial⟩
    rcases Nat.eq_zero_or_pos l with h | h
    · subst h; exact .inl rfl
    · right
      obtain ⟨b, off, spot⟩ := a
      have hc := hcell 0 (by omega)
      have hspot : spot = none := by simpa [Addr.add] using World.cell?_spot hc
      subst hspot
      refine ⟨b, off, rfl, fun i hi => ?_⟩
      have hi' : i < l := by simpa using hi
      have := hcell i (by omega)
      rw [vadd_none] at this
      rw [this]
      simp [List.getD_eq_getElem?_getD, hi']
end
end Go.Proofs.YtemimmnamajooaaGreat
