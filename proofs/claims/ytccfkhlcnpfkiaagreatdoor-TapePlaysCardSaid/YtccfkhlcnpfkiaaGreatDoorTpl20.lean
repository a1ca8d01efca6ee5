/- A part. -/
import Derived.Test.YtccfkhlcnpfkiaaGreatDoorTpl17
set_option linter.unusedVariables false
set_option linter.unusedSimpArgs false
namespace Go.Proofs.YtccfkhlcnpfkiaaGreatDoor
open Go.RowKit Go.Deep
attribute [local go_sem] fr_opt
end Go.Proofs.YtccfkhlcnpfkiaaGreatDoor
