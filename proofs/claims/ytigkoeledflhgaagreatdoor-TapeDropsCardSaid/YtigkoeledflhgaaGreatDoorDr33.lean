/-
  Part 33: what the statement needs of these texts: RecPAll.
-/
import Derived.BigQuiet
import Derived.Deep.DeepCutAuto
import Derived.Deep.DeepMust
import Derived.Deep.OwnRows
import Derived.Deep.QuietTactic
import Derived.Deep.RegionHeld3
import Derived.Deep.RegionLaw
import Derived.Deep.RegionWith
import Derived.Defers
import Derived.Laws.BitsAllLaws
import Derived.Laws.PanicsMore
import Derived.Laws.Rows
import Derived.Laws.StructEq
import Derived.Lib.AppendStr
import Derived.Lib.Hide
import Derived.Lib.OthersKept
import Derived.Lib.Repeat
import Derived.Lib.SmallJoins
import Derived.ProofKit
import Derived.Recover
import Derived.Shelf.GgClosure.StringsIndexFuncTop
import Derived.Shelf.LaysM
import Derived.Shelf.SlSortCmp.NoneTotal
import Derived.Shelf.Slices.In.SortNone
import Derived.Shelf.Slices.SearchI
import Derived.Shelf.Small.Wraps
import Derived.Shelf.Sort.Plain
import Derived.Shelf.Strconv.Atoi
import Derived.Shelf.Strconv.Itoa3
import Derived.Shelf.Strings.Builder1
import Derived.Shelf.Strings.Prefix
import Derived.Shelf.Strings.Repeat
import Derived.StillTailTactics
import Derived.Test.YtigkoeledflhgaaGreatDoorProg
import Derived.Test.YtigkoeledflhgaaGreatDoorRows
import Derived.WalkKit
import Derived.WalkLawsBesides
import Derived.WalkSmall
import Derived.WalkSpells
import Derived.Test.YtigkoeledflhgaaGreatDoorDr1
import Derived.Test.YtigkoeledflhgaaGreatDoorDr3
import Derived.Test.YtigkoeledflhgaaGreatDoorDr4
import Derived.Test.YtigkoeledflhgaaGreatDoorDr5
import Derived.Test.YtigkoeledflhgaaGreatDoorDr6
import Derived.Test.YtigkoeledflhgaaGreatDoorDr7
import Derived.Test.YtigkoeledflhgaaGreatDoorDr8
import Derived.Test.YtigkoeledflhgaaGreatDoorDr11
import Derived.Test.YtigkoeledflhgaaGreatDoorDr12
import Derived.Test.YtigkoeledflhgaaGreatDoorDr14
import Derived.Test.YtigkoeledflhgaaGreatDoorDr15
import Derived.Test.YtigkoeledflhgaaGreatDoorDr16
import Derived.Test.YtigkoeledflhgaaGreatDoorDr17
import Derived.Test.YtigkoeledflhgaaGreatDoorDr22
import Derived.Test.YtigkoeledflhgaaGreatDoorDr26
import Derived.Test.YtigkoeledflhgaaGreatDoorDr30
import Derived.Test.YtigkoeledflhgaaGreatDoorDr31
import Derived.Test.YtigkoeledflhgaaGreatDoorDr32
namespace Go.Proofs.YtigkoeledflhgaaGreatDoor
open Go.RowKit Go.Deep
set_option linter.unusedVariables false
set_option linter.unusedSimpArgs false

/-- Not more than is played. -/
structure Fine (m : MsgM) : Prop where
  body : m.body.size ≤ 2000
  topic : m.topic.size ≤ 100
  tag : m.tag.size ≤ 100
  many : m.keys.length ≤ 10
  keys : ∀ t ∈ m.keys, t.size ≤ 100
structure Sized (w : World) (p : MsgM × Value) : Prop where
  strs : Strs w 0 p.2 p.1.keys
  body : p.1.body.size ≤ maxLen
  topic : p.1.topic.size ≤ maxLen
  tag : p.1.tag.size ≤ maxLen
  many : p.1.keys.length ≤ maxLen
  keys : ∀ t ∈ p.1.keys, t.size ≤ maxLen
def GreatTo (ms : List (MsgM × Value)) (w : World) (e : Ending) (w' : World) : Prop := ∃ x, e = .returned (.bool x) ∧ (x = false → ∀ p ∈ ms, Fine p.1) ∧ Below w.heap.size w w'
theorem take_more {ts : List ByteArray} {j : Nat} {t : ByteArray} {n : Nat} (h : ∀ t ∈ ts.take j, t.size ≤ n) (hj : ts[j]? = some t) (ht : t.size ≤ n) : ∀ t ∈ ts.take (j + 1), t.size ≤ n := by
  intro u hu
  rw [List.take_add_one, hj] at hu
  rcases List.mem_append.1 hu with hu | hu
  · exact h u hu
  · simp only [Option.toList_some, List.mem_singleton] at hu
    rw [hu]
    exact ht
end Go.Proofs.YtigkoeledflhgaaGreatDoor

namespace Go.Proofs.YtigkoeledflhgaaGreatDoor
open Go.RowKit Go.Deep
set_option linter.unusedVariables false
set_option linter.unusedSimpArgs false

end Go.Proofs.YtigkoeledflhgaaGreatDoor

namespace Go.Proofs.YtigkoeledflhgaaGreatDoor
open Go.Joins Go.ChangeShapes Go.WideShapes Go.RowKit Go.Deep
set_option linter.unusedVariables false
set_option linter.unusedSimpArgs false

section
variable {H : Type} {enc : TypeId × Value → H} {P : Program} {w : World} {base : Nat} {spare : Nat → Bool} {held : Bool}
end
end Go.Proofs.YtigkoeledflhgaaGreatDoor

namespace Go.Proofs.YtigkoeledflhgaaGreatDoor
open Go.RowKit Go.Deep
set_option linter.unusedVariables false
set_option linter.unusedSimpArgs false

end Go.Proofs.YtigkoeledflhgaaGreatDoor

namespace Go.Proofs.YtigkoeledflhgaaGreatDoor
open Go.RowKit Go.Deep
set_option linter.unusedVariables false
set_option linter.unusedSimpArgs false

end Go.Proofs.YtigkoeledflhgaaGreatDoor

namespace Go.Proofs.YtigkoeledflhgaaGreatDoor
open Go.RowKit Go.Deep
set_option linter.unusedVariables false
set_option linter.unusedSimpArgs false

end Go.Proofs.YtigkoeledflhgaaGreatDoor

namespace Go.Proofs.YtigkoeledflhgaaGreatDoor
open Go.RowKit Go.Deep

end Go.Proofs.YtigkoeledflhgaaGreatDoor

