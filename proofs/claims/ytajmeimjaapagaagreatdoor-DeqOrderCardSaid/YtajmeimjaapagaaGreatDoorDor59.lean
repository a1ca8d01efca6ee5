/- A part. -/
import Derived.Deep.Grids
import Derived.Lib.SmallJoins
import Derived.Test.YtajmeimjaapagaaGreatDoorDor43
import Derived.Test.YtajmeimjaapagaaGreatDoorDor57
set_option linter.unusedVariables false
set_option linter.unusedSimpArgs false
namespace Go.Proofs.YtajmeimjaapagaaGreatDoor
open Go.Joins Go.ChangeShapes Go.WideShapes Go.RowKit Go.Deep
instance:Inhabited (MsgM×Value):=⟨(⟨0,0,0,0,0,0,⟨#[]⟩,⟨#[]⟩,⟨#[]⟩,[]⟩,.slice none 0 0)⟩
section
variable {H:Type} {enc:TypeId×Value→H} {W:World}
end
end Go.Proofs.YtajmeimjaapagaaGreatDoor
