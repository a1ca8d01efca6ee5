/- A part. -/
import Derived.Deep.DeepCutAuto
import Derived.Deep.RegionHeld3
import Derived.Shelf.SlIterI.Collect
import Derived.Shelf.SlSortCmp.NoneTotal
import Derived.Test.YtldkapjeheiiaaaGreatDoorEon10
import Derived.Test.YtldkapjeheiiaaaGreatDoorEon26
set_option linter.unusedVariables false
set_option linter.unusedSimpArgs false
namespace Go.Proofs.YtldkapjeheiiaaaGreatDoor
open Go.RowKit Go.Deep
open Go.Sort (grow putRow Holds putCells PermIn SortedIn)
attribute [local go_sem] fr_opt
def Gr (w w' : World) : Prop := ∃ q os, w' = grow (w.drewN q) os
theorem Gr.refl (w : World) : Gr w w := ⟨0, #[], by simp [grow]; rfl⟩
abbrev NId : Type := {a : Int // (Lit.int .i64 a).wf = true}
instance : Inhabited NId := ⟨⟨0, by decide⟩⟩
end Go.Proofs.YtldkapjeheiiaaaGreatDoor
namespace Go.Proofs.YtldkapjeheiiaaaGreatDoor
open Go.RowKit Go.Deep
attribute [local go_sem] fr_opt
end Go.Proofs.YtldkapjeheiiaaaGreatDoor
