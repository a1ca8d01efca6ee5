/-
  Part 37: what the statement needs of these texts: TNil.
-/
import Derived.BigQuiet
import Derived.BigRegion
import Derived.Deep.DeepCutAuto
import Derived.Deep.DeepMust
import Derived.Deep.OwnRows
import Derived.Deep.QuietTactic
import Derived.Deep.RegionHeld3
import Derived.Deep.RegionLaw
import Derived.Defers
import Derived.IntWalk
import Derived.Laws.BitsAllLaws
import Derived.Laws.CopyOwn
import Derived.Laws.OwnMore
import Derived.Laws.PanicsMore
import Derived.Laws.RangeAny
import Derived.Laws.Rows
import Derived.Laws.StructEq
import Derived.Lib.AppendStr
import Derived.Lib.AppendZerosOnto
import Derived.Lib.Atoi
import Derived.Lib.AtoiErrMem
import Derived.Lib.BufferRead
import Derived.Lib.BufferWrite
import Derived.Lib.Hide
import Derived.Lib.ItoaNum
import Derived.Lib.LaidTab
import Derived.Lib.OthersKept
import Derived.Lib.Repeat
import Derived.Lib.SliceRun
import Derived.Maps.AppendAt
import Derived.Maps.OwnSet
import Derived.Maps.RangeWalk
import Derived.Orders
import Derived.ProofKit
import Derived.Recover
import Derived.Shelf.GgClosure.StringsIndexFunc
import Derived.Shelf.GgClosure.StringsIndexFuncTop
import Derived.Shelf.LaysM
import Derived.Shelf.SlSortCmp.NoneTotal
import Derived.Shelf.Slices.Clone
import Derived.Shelf.Slices.In.SortNone
import Derived.Shelf.Slices.SearchI
import Derived.Shelf.Slices.Turned
import Derived.Shelf.Small.Wraps
import Derived.Shelf.Sort.Plain
import Derived.Shelf.Strconv.Atoi
import Derived.Shelf.Strconv.Itoa3
import Derived.Shelf.Strings.Builder1
import Derived.Shelf.Strings.Prefix
import Derived.Shelf.Strings.Repeat
import Derived.Sort.KeysCollected
import Derived.Sort.OwnSorted
import Derived.StillTailTactics
import Derived.StringKeys
import Derived.Test.YthkmnnokbocegaaGreatDoorProg
import Derived.Test.YthkmnnokbocegaaGreatDoorRows
import Derived.WalkKit
import Derived.WalkLawsBesides
import Derived.WalkSmall
import Derived.WalkSpells
import Derived.Test.YthkmnnokbocegaaGreatDoorKI1
import Derived.Test.YthkmnnokbocegaaGreatDoorKI3
import Derived.Test.YthkmnnokbocegaaGreatDoorKI4
import Derived.Test.YthkmnnokbocegaaGreatDoorKI5
import Derived.Test.YthkmnnokbocegaaGreatDoorKI6
import Derived.Test.YthkmnnokbocegaaGreatDoorKI7
import Derived.Test.YthkmnnokbocegaaGreatDoorKI8
import Derived.Test.YthkmnnokbocegaaGreatDoorKI9
import Derived.Test.YthkmnnokbocegaaGreatDoorKI10
import Derived.Test.YthkmnnokbocegaaGreatDoorKI11
import Derived.Test.YthkmnnokbocegaaGreatDoorKI12
import Derived.Test.YthkmnnokbocegaaGreatDoorKI13
import Derived.Test.YthkmnnokbocegaaGreatDoorKI14
import Derived.Test.YthkmnnokbocegaaGreatDoorKI15
import Derived.Test.YthkmnnokbocegaaGreatDoorKI16
import Derived.Test.YthkmnnokbocegaaGreatDoorKI17
import Derived.Test.YthkmnnokbocegaaGreatDoorKI18
import Derived.Test.YthkmnnokbocegaaGreatDoorKI19
import Derived.Test.YthkmnnokbocegaaGreatDoorKI20
import Derived.Test.YthkmnnokbocegaaGreatDoorKI21
import Derived.Test.YthkmnnokbocegaaGreatDoorKI22
import Derived.Test.YthkmnnokbocegaaGreatDoorKI23
import Derived.Test.YthkmnnokbocegaaGreatDoorKI24
import Derived.Test.YthkmnnokbocegaaGreatDoorKI25
import Derived.Test.YthkmnnokbocegaaGreatDoorKI26
import Derived.Test.YthkmnnokbocegaaGreatDoorKI27
import Derived.Test.YthkmnnokbocegaaGreatDoorKI29
import Derived.Test.YthkmnnokbocegaaGreatDoorKI33
import Derived.Test.YthkmnnokbocegaaGreatDoorKI34
import Derived.Test.YthkmnnokbocegaaGreatDoorKI35
import Derived.Test.YthkmnnokbocegaaGreatDoorKI36
namespace Go.Proofs.YthkmnnokbocegaaGreatDoor
open Go.RowKit Go.Deep
set_option linter.unusedVariables false
set_option linter.unusedSimpArgs false

/-- Only memory is added. -/
def Adds (v : Value) (w : World) (e : Ending) (w' : World) : Prop := e = .returned v ∧ Below w.heap.size w w'
end Go.Proofs.YthkmnnokbocegaaGreatDoor

