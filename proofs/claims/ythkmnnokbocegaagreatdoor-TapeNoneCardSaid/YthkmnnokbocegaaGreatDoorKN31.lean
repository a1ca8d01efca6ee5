/-
  Part 31: what the statement needs of these texts: RecS.
-/
import Derived.BigQuiet
import Derived.Deep.DeepCutAuto
import Derived.Deep.DeepMust
import Derived.Deep.OwnRows
import Derived.Deep.QuietTactic
import Derived.Deep.RegionHeld3
import Derived.Deep.RegionLaw
import Derived.Deep.RegionWith
import Derived.Defers
import Derived.Laws.BitsAllLaws
import Derived.Laws.PanicsMore
import Derived.Laws.Rows
import Derived.Laws.StructEq
import Derived.Lib.AppendStr
import Derived.Lib.Hide
import Derived.Lib.OthersKept
import Derived.Lib.Repeat
import Derived.ProofKit
import Derived.Recover
import Derived.Shelf.GgClosure.StringsIndexFuncTop
import Derived.Shelf.LaysM
import Derived.Shelf.SlSortCmp.NoneTotal
import Derived.Shelf.Slices.Clone
import Derived.Shelf.Slices.In.SortNone
import Derived.Shelf.Slices.SearchI
import Derived.Shelf.Slices.Turned
import Derived.Shelf.Small.Wraps
import Derived.Shelf.Sort.Plain
import Derived.Shelf.Strconv.Atoi
import Derived.Shelf.Strconv.Itoa3
import Derived.Shelf.Strings.Builder1
import Derived.Shelf.Strings.Prefix
import Derived.Shelf.Strings.Repeat
import Derived.StillTailTactics
import Derived.Test.YthkmnnokbocegaaGreatDoorProg
import Derived.Test.YthkmnnokbocegaaGreatDoorRows
import Derived.WalkKit
import Derived.WalkLawsBesides
import Derived.WalkSmall
import Derived.WalkSpells
import Derived.Test.YthkmnnokbocegaaGreatDoorKN1
import Derived.Test.YthkmnnokbocegaaGreatDoorKN3
import Derived.Test.YthkmnnokbocegaaGreatDoorKN4
import Derived.Test.YthkmnnokbocegaaGreatDoorKN5
import Derived.Test.YthkmnnokbocegaaGreatDoorKN6
import Derived.Test.YthkmnnokbocegaaGreatDoorKN7
import Derived.Test.YthkmnnokbocegaaGreatDoorKN8
import Derived.Test.YthkmnnokbocegaaGreatDoorKN11
import Derived.Test.YthkmnnokbocegaaGreatDoorKN12
import Derived.Test.YthkmnnokbocegaaGreatDoorKN14
import Derived.Test.YthkmnnokbocegaaGreatDoorKN15
import Derived.Test.YthkmnnokbocegaaGreatDoorKN16
import Derived.Test.YthkmnnokbocegaaGreatDoorKN21
import Derived.Test.YthkmnnokbocegaaGreatDoorKN22
import Derived.Test.YthkmnnokbocegaaGreatDoorKN26
import Derived.Test.YthkmnnokbocegaaGreatDoorKN30
namespace Go.Proofs.YthkmnnokbocegaaGreatDoor
open Go.RowKit Go.Deep
set_option linter.unusedVariables false
set_option linter.unusedSimpArgs false

theorem below_drew2 {B : Nat} {a w : World} (h : Below B a w) : Below B a w.drew := h.drew
end Go.Proofs.YthkmnnokbocegaaGreatDoor

