/-
  Part 14: what the statement needs of these texts: Eq4.
-/
import Derived.BigQuiet
import Derived.Deep.OwnRows
import Derived.Deep.QuietTactic
import Derived.Laws.PanicsMore
import Derived.Laws.Rows
import Derived.Laws.StructEq
import Derived.Lib.Hide
import Derived.ProofKit
import Derived.Test.YthkmnnokbocegaaGreatDoorRows
import Derived.WalkKit
import Derived.WalkLawsBesides
import Derived.WalkSpells
import Derived.Test.YthkmnnokbocegaaGreatDoorKN5
import Derived.Test.YthkmnnokbocegaaGreatDoorKN11
namespace Go.Proofs.YthkmnnokbocegaaGreatDoor.Cr
open Go.RowKit Go.Deep

theorem info_u8 : (Tryz.prog.info? 5).map (·.size) = some 1 := by kernel_rfl
theorem size_u8 (w : World) : (sizeOf 5).run Tryz.prog w = .ok 1 w := by
  have h := info_u8
  cases hq : Tryz.prog.info? 5 with
  | none => simp [hq] at h
  | some i =>
    have hs : i.size = 1 := by simpa [hq] using h
    simp [sizeOf, typeInfo, hq, hs]

end Go.Proofs.YthkmnnokbocegaaGreatDoor.Cr

