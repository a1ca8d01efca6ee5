/-
  Arguments, opened: texts with their sizes, truths.
-/
import Derived.Test.YtmoehmclcegmnaaGreatDoorSAgW
import Derived.Deep.Grids
import Derived.SliceStrings
import Derived.ChangeSame
import Derived.Lib.SmallJoins
namespace Go.Proofs.YtmoehmclcegmnaaGreatDoor
open Go.RowKit Go.Deep
set_option linter.unusedVariables false
set_option linter.unusedSimpArgs false
open Go.ChangeShapes Go.WideShapes
section
variable {H : Type} {enc : TypeId × Value → H} {W : World}
theorem strs2_open {n : Nat} {v : Value} {y : DataW H × List MemPlace} (h : DataW.trod enc Tryz.prog W 0 (fun _ => true) true n 42 [v] = some y) : ∃ zs, Strs W 0 v zs ∧ zs.length ≤ maxLen ∧ ∀ t ∈ zs, t.size ≤ maxLen := by
  rcases open_strings Tryz.underlying42 Tryz.underlying9 (by kernel_rfl) h with ⟨hcs, _⟩ | ⟨x, l, c, zs, hcs, _, hl, hm, hz, _, hcell, hwf⟩
  · obtain rfl : v = _ := List.singleton_inj.1 hcs
    exact ⟨[], ⟨none, 0, rfl, .inl rfl⟩, Nat.zero_le _, fun t ht => by cases ht⟩
  · obtain rfl : v = _ := List.singleton_inj.1 hcs
    have hz' : zs.length = c := by simpa using hz
    exact ⟨zs.take l, strs_of hl hz' hcell, by rw [List.length_take]; omega, fun t ht => hwf t (List.mem_of_mem_take ht)⟩
theorem bools2_open {n : Nat} {v : Value} {y : DataW H × List MemPlace} (h : DataW.trod enc Tryz.prog W 0 (fun _ => true) true n 59 [v] = some y) : ∃ zs, BoolsOf W v zs ∧ zs.length ≤ maxLen := by
  rcases open_bools Tryz.underlying59 Tryz.underlying4 (by kernel_rfl) h with ⟨hcs, _⟩ | ⟨a, l, c, B, hcs, _, hl, hm, _, hcell⟩
  · obtain rfl : v = _ := List.singleton_inj.1 hcs
    exact ⟨[], ⟨none, 0, rfl, .inl rfl⟩, Nat.zero_le _⟩
  · obtain rfl : v = _ := List.singleton_inj.1 hcs
    refine ⟨(List.range l).map B, ⟨some a, c, by simp, ?_⟩, by simp; omega⟩
    rcases Nat.eq_zero_or_pos l with h | h
    · subst h; exact .inl rfl
    · right
      obtain ⟨b, off, spot⟩ := a
      have hc := hcell 0 (by omega)
      have hspot : spot = none := by simpa [Addr.add] using World.cell?_spot hc
      subst hspot
      refine ⟨b, off, rfl, fun i hi => ?_⟩
      have hi' : i < l := by simpa using hi
      have := hcell i (by omega)
      rw [add_none] at this
      rw [this]
      simp [List.getD_eq_getElem?_getD, hi']
end
end Go.Proofs.YtmoehmclcegmnaaGreatDoor
