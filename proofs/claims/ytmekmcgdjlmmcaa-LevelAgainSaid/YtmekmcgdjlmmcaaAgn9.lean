/-
  Part 9: what the statement needs of these texts: WTexts.
-/
import Derived.BigQuiet
import Derived.Deep.DeepCutAuto
import Derived.Deep.OwnRows
import Derived.Deep.QuietTactic
import Derived.Lib.AppendStr
import Derived.Lib.Hide
import Derived.ProofKit
import Derived.Test.YtmekmcgdjlmmcaaRows
import Derived.WalkKit
import Derived.WalkLawsBesides
import Derived.WalkSpells
import Derived.Test.YtmekmcgdjlmmcaaAgn2
import Derived.Test.YtmekmcgdjlmmcaaAgn3
import Derived.Test.YtmekmcgdjlmmcaaAgn4
import Derived.Test.YtmekmcgdjlmmcaaAgn5
namespace Go.Proofs.Ytmekmcgdjlmmcaa.Oc
open Go.RowKit Go.Deep

theorem all_snoc {ts : List ByteArray} {k n : Nat} (h : k < ts.length) (ha : ∀ t ∈ ts.take k, t.size ≤ n) (hx : (ts.getD k ⟨#[]⟩).size ≤ n) : ∀ t ∈ ts.take (k + 1), t.size ≤ n := by
  intro t hm
  rw [take_snoc' ts h, List.mem_append] at hm
  rcases hm with hm | hm
  · exact ha t hm
  · rw [List.mem_singleton] at hm
    rw [hm]; exact hx
end Go.Proofs.Ytmekmcgdjlmmcaa.Oc

