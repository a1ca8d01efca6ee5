/- A part. -/
import Derived.Deep.RegionHeld3
import Derived.Shelf.SlSortCmp.NoneTotal
import Derived.Test.YtdnhgodfmjapmaaGreatDoorDke17
import Derived.Test.YtdnhgodfmjapmaaGreatDoorDke22
import Derived.Test.YtdnhgodfmjapmaaGreatDoorDke28
set_option linter.unusedVariables false
set_option linter.unusedSimpArgs false
namespace Go.Proofs.YtdnhgodfmjapmaaGreatDoor
open Go.RowKit Go.Deep
open Go.Sort (grow putRow Holds putCells PermIn SortedIn)
instance : Inhabited QK := ⟨⟨(⟨#[]⟩, 0), by unfold maxLen; decide, by decide⟩⟩
def Gr (w w' : World) : Prop := ∃ q os, w' = grow (w.drewN q) os
theorem Gr.refl (w : World) : Gr w w := ⟨0, #[], by simp [grow]; rfl⟩
end Go.Proofs.YtdnhgodfmjapmaaGreatDoor
