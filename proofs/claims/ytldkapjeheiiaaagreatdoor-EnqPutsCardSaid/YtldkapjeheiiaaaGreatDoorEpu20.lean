/- A part. -/
import Derived.Test.YtldkapjeheiiaaaGreatDoorEpu2
import Derived.Test.YtldkapjeheiiaaaGreatDoorEpu5
set_option linter.unusedVariables false
set_option linter.unusedSimpArgs false
namespace Go.Proofs.YtldkapjeheiiaaaGreatDoor
open Go.RowKit Go.Deep Go.WideShapes
def boolElR:Value→Option (DataW Unit×List MemPlace)
 | .bool b=>some (.lit (.bool b),[])
 | _=>none
theorem boolElR_inv {v:Value} {y:DataW Unit×List MemPlace} (h:boolElR v=some y):∃ b:Bool,v = .bool b∧y=(.lit (.bool b),[]):=by
 unfold boolElR at h
 split at h
 ·cases h;exact ⟨_,rfl,rfl⟩
 ·cases h
def boolEl:ElK Bool where
 R:=boolElR
 ev b:=.bool b
 ed b:=.lit (.bool b)
 el _:=rfl
 inv _ _ h:=boolElR_inv h
 inj a b h:=by injection h with h;injection h
noncomputable def nK:KeyK Tryz.prog 3 Int:=intKey Tryz.underlying3
theorem bool_zero (w:World):(zeroValue 4).run Tryz.prog w = .ok (boolEl.ev false) w:=by kernel_rfl
section
variable {w:World} {ops:Array Oper} {rest:List Oper} {o:Oper} {a:Act} {Q:Exit→Act→World→Prop}
theorem wpList_store_ib (hg:o.guard=none) (m x v:Operand) (hop:o.op=Op.mapUpdate 33 m x v) (mm:Nat) (M:List (Int×Bool)) (p:Int) (l:Bool)
 (hm:a.eval m = .map (some mm)) (hx:a.eval x = .int .i64 p) (hv:a.eval v = .bool l) (h:MapK nK boolEl w mm M) (hp:(Lit.int .i64 p).wf=true) (hn:M.length<maxLen)
 (hK:∀ w',MapK nK boolEl w' mm (dropK M p ++ [(p,l)])→w.grownBy w' (some mm)→w'.heap.size=w.heap.size→wpList Tryz.prog ops Q rest (a.put o.dst undef) w'):wpList Tryz.prog ops Q (o :: rest) a w:=by
 refine wpList_plain hg fun K' hK'=>?_
 obtain ⟨w',hrun,r1,r2,r3⟩:=h.store (t:=33) (e:=4) Tryz.underlying33 p hp l hn
 have hrun:(Instr.mapUpdate 33 (.map (some mm)) (.int .i64 p) (.bool l)).run Tryz.prog w = .ok () w':=hrun
 unfold Oper.wp
 simp [execOp,hop,hm,hx,hv,hrun,Result.andThen]
 exact hK' _ _ (hK w' r1 r2 r3)
end
end Go.Proofs.YtldkapjeheiiaaaGreatDoor
