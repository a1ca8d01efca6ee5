/- A part. -/
import Derived.Test.YtajmeimjaapagaaGreatDoorDor43
import Derived.Test.YtajmeimjaapagaaGreatDoorDor53
set_option linter.unusedVariables false
set_option linter.unusedSimpArgs false
namespace Go.Proofs.YtajmeimjaapagaaGreatDoor
open Go.RowKit Go.Deep
def Adds (v:Value) (w:World) (e:Ending) (w':World):Prop:=e = .returned v∧Below w.heap.size w w'
def ReadTo (m:MsgM) (x:Int) (w:World) (e:Ending) (w':World):Prop:=∃ vk,e = .returned (.tuple #[m.val vk,.int .i64 x])∧Strs w' w.heap.size vk m.keys∧CapOk vk∧Below w.heap.size w w'
end Go.Proofs.YtajmeimjaapagaaGreatDoor
