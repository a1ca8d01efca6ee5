/- A part. -/
import Derived.Deep.AppendLies
import Derived.Test.YtkmmbpdiljgkgaaTte20
set_option linter.unusedVariables false
set_option linter.unusedSimpArgs false
namespace Go.Proofs.Ytkmmbpdiljgkgaa
open Go.RowKit Go.Deep
attribute [local go_sem] fr_opt
end Go.Proofs.Ytkmmbpdiljgkgaa
