/-
  Part 39: what the statement needs of these texts: TNil, TNil2.
-/
import Derived.BigQuiet
import Derived.BigRegion
import Derived.Deep.DeepCutAuto
import Derived.Deep.DeepMust
import Derived.Deep.OwnRows
import Derived.Deep.QuietTactic
import Derived.Deep.RegionHeld3
import Derived.Deep.RegionLaw
import Derived.Defers
import Derived.IntWalk
import Derived.Laws.BitsAllLaws
import Derived.Laws.CopyOwn
import Derived.Laws.OwnMore
import Derived.Laws.PanicsMore
import Derived.Laws.RangeAny
import Derived.Laws.Rows
import Derived.Laws.StructEq
import Derived.Lib.AppendStr
import Derived.Lib.AppendZerosOnto
import Derived.Lib.Atoi
import Derived.Lib.AtoiErrMem
import Derived.Lib.BufferRead
import Derived.Lib.BufferWrite
import Derived.Lib.Hide
import Derived.Lib.ItoaNum
import Derived.Lib.LaidTab
import Derived.Lib.OthersKept
import Derived.Lib.Repeat
import Derived.Lib.SliceRun
import Derived.Maps.AppendAt
import Derived.Maps.OwnSet
import Derived.Maps.RangeWalk
import Derived.Orders
import Derived.ProofKit
import Derived.Recover
import Derived.Shelf.GgClosure.StringsIndexFunc
import Derived.Shelf.GgClosure.StringsIndexFuncTop
import Derived.Shelf.LaysM
import Derived.Shelf.SlSortCmp.NoneTotal
import Derived.Shelf.Slices.In.SortNone
import Derived.Shelf.Slices.SearchI
import Derived.Shelf.Small.Wraps
import Derived.Shelf.Sort.Plain
import Derived.Shelf.Strconv.Atoi
import Derived.Shelf.Strconv.Itoa3
import Derived.Shelf.Strings.Builder1
import Derived.Shelf.Strings.Prefix
import Derived.Shelf.Strings.Repeat
import Derived.Sort.KeysCollected
import Derived.Sort.OwnSorted
import Derived.StillTailTactics
import Derived.StringKeys
import Derived.Test.YtigkoeledflhgaaGreatDoorProg
import Derived.Test.YtigkoeledflhgaaGreatDoorRows
import Derived.WalkKit
import Derived.WalkLawsBesides
import Derived.WalkSmall
import Derived.WalkSpells
import Derived.Test.YtigkoeledflhgaaGreatDoorDr1
import Derived.Test.YtigkoeledflhgaaGreatDoorDr3
import Derived.Test.YtigkoeledflhgaaGreatDoorDr4
import Derived.Test.YtigkoeledflhgaaGreatDoorDr5
import Derived.Test.YtigkoeledflhgaaGreatDoorDr6
import Derived.Test.YtigkoeledflhgaaGreatDoorDr7
import Derived.Test.YtigkoeledflhgaaGreatDoorDr8
import Derived.Test.YtigkoeledflhgaaGreatDoorDr9
import Derived.Test.YtigkoeledflhgaaGreatDoorDr10
import Derived.Test.YtigkoeledflhgaaGreatDoorDr11
import Derived.Test.YtigkoeledflhgaaGreatDoorDr12
import Derived.Test.YtigkoeledflhgaaGreatDoorDr13
import Derived.Test.YtigkoeledflhgaaGreatDoorDr14
import Derived.Test.YtigkoeledflhgaaGreatDoorDr15
import Derived.Test.YtigkoeledflhgaaGreatDoorDr16
import Derived.Test.YtigkoeledflhgaaGreatDoorDr17
import Derived.Test.YtigkoeledflhgaaGreatDoorDr18
import Derived.Test.YtigkoeledflhgaaGreatDoorDr19
import Derived.Test.YtigkoeledflhgaaGreatDoorDr20
import Derived.Test.YtigkoeledflhgaaGreatDoorDr21
import Derived.Test.YtigkoeledflhgaaGreatDoorDr22
import Derived.Test.YtigkoeledflhgaaGreatDoorDr23
import Derived.Test.YtigkoeledflhgaaGreatDoorDr24
import Derived.Test.YtigkoeledflhgaaGreatDoorDr25
import Derived.Test.YtigkoeledflhgaaGreatDoorDr26
import Derived.Test.YtigkoeledflhgaaGreatDoorDr27
import Derived.Test.YtigkoeledflhgaaGreatDoorDr29
import Derived.Test.YtigkoeledflhgaaGreatDoorDr30
import Derived.Test.YtigkoeledflhgaaGreatDoorDr31
import Derived.Test.YtigkoeledflhgaaGreatDoorDr34
import Derived.Test.YtigkoeledflhgaaGreatDoorDr35
import Derived.Test.YtigkoeledflhgaaGreatDoorDr36
import Derived.Test.YtigkoeledflhgaaGreatDoorDr37
import Derived.Test.YtigkoeledflhgaaGreatDoorDr38
namespace Go.Proofs.YtigkoeledflhgaaGreatDoor
open Go.RowKit Go.Deep
set_option linter.unusedVariables false
set_option linter.unusedSimpArgs false

/-- Only memory is added. -/
def Adds (v : Value) (w : World) (e : Ending) (w' : World) : Prop := e = .returned v ∧ Below w.heap.size w w'
end Go.Proofs.YtigkoeledflhgaaGreatDoor

namespace Go.Proofs.YtigkoeledflhgaaGreatDoor
open Go.RowKit Go.Deep
set_option linter.unusedVariables false
set_option linter.unusedSimpArgs false

/-- What Read gives back: a record and an Errno; only memory is added. -/
def ReadTo (m : MsgM) (x : Int) (w : World) (e : Ending) (w' : World) : Prop := ∃ vk, e = .returned (.tuple #[m.val vk, .int .i64 x]) ∧ Strs w' w.heap.size vk m.keys ∧ CapOk vk ∧ Below w.heap.size w w'
end Go.Proofs.YtigkoeledflhgaaGreatDoor

