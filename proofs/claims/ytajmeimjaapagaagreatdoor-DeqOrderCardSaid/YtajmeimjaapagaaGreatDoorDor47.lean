/- A part. -/
import Derived.Deep.AppendLies
import Derived.Test.YtajmeimjaapagaaGreatDoorDor45
set_option linter.unusedVariables false
set_option linter.unusedSimpArgs false
namespace Go.Proofs.YtajmeimjaapagaaGreatDoor
open Go.RowKit Go.Deep
attribute [local go_sem] fr_opt
end Go.Proofs.YtajmeimjaapagaaGreatDoor
