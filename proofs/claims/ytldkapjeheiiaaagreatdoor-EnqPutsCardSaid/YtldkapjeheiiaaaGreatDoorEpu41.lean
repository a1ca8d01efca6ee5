/- A part. -/
import Derived.Lib.SmallJoins
import Derived.Test.YtldkapjeheiiaaaGreatDoorEpu40
set_option linter.unusedVariables false
set_option linter.unusedSimpArgs false
namespace Go.Proofs.YtldkapjeheiiaaaGreatDoor
open Go.RowKit Go.Deep
structure Fine (m:MsgM):Prop where
 body:m.body.size≤2000
 topic:m.topic.size≤100
 tag:m.tag.size≤100
 many:m.keys.length≤10
 keys:∀ t∈m.keys,t.size≤100
structure Sized (w:World) (p:MsgM×Value):Prop where
 strs:Strs w 0 p.2 p.1.keys
 body:p.1.body.size≤maxLen
 topic:p.1.topic.size≤maxLen
 tag:p.1.tag.size≤maxLen
 many:p.1.keys.length≤maxLen
 keys:∀ t∈p.1.keys,t.size≤maxLen
def GreatTo (ms:List (MsgM×Value)) (w:World) (e:Ending) (w':World):Prop:=∃ x,e = .returned (.bool x)∧(x=false→∀ p∈ms,Fine p.1)∧Below w.heap.size w w'
theorem take_more {ts:List ByteArray} {j:Nat} {t:ByteArray} {n:Nat} (h:∀ t∈ts.take j,t.size≤n) (hj:ts[j]? = some t) (ht:t.size≤n):∀ t∈ts.take (j+1),t.size≤n:=by
 intro u hu
 rw [List.take_add_one,hj] at hu
 rcases List.mem_append.1 hu with hu|hu
 ·exact h u hu
 ·simp only [Option.toList_some,List.mem_singleton] at hu
  rw [hu]
  exact ht
end Go.Proofs.YtldkapjeheiiaaaGreatDoor
namespace Go.Proofs.YtldkapjeheiiaaaGreatDoor
open Go.Joins Go.ChangeShapes Go.WideShapes Go.RowKit Go.Deep
section
variable {H:Type} {enc:TypeId×Value→H} {P:Program} {w:World} {base:Nat} {spare:Nat→Bool} {held:Bool}
end
end Go.Proofs.YtldkapjeheiiaaaGreatDoor
namespace Go.Proofs.YtldkapjeheiiaaaGreatDoor
open Go.RowKit Go.Deep
end Go.Proofs.YtldkapjeheiiaaaGreatDoor
