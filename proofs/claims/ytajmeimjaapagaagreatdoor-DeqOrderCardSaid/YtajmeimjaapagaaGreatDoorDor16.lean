/- A part. -/
import Derived.Deep.DeepCutAuto
import Derived.Deep.RegionLaw
import Derived.Test.YtajmeimjaapagaaGreatDoorDor6
set_option linter.unusedVariables false
set_option linter.unusedSimpArgs false
namespace Go.Proofs.YtajmeimjaapagaaGreatDoor.Oc
open Go.RowKit Go.Deep
theorem run_append_strs (w:World) (base:Nat) (ty:TypeId) (v u:Value) (n:Nat) (xs:List Value) (ts:List ByteArray) (hown:w.ownsRow base 9 1 v n xs) (hu:Strs w 0 u ts) (hn:n+ts.length≤1000000) (hbase:base≤w.heap.size) :
 ∃ v' w',(Builtin.append_ #[34,34] ty #[v,u]).run Tryz.prog w = .ok v' w'∧w'.ownsRow base 9 1 v' (n+ts.length) (xs ++ ts.map Value.string)∧w.grownBy w' v.ownBlock:=by
 obtain ⟨i0,hi,hz0,hz1,hz2⟩:=info_parts info9
 obtain ⟨a,cap,rfl,h⟩:=hu
 cases a with
 | none=>
  have h0:ts=[]:=by
   rcases h with h|⟨b,o,h,_⟩
   ·exact h
   ·cases h
  subst h0
  refine ⟨v,w,?_,by simpa using hown,grownBy_refl _ _⟩
  rcases hown.2 with ⟨rfl,rfl⟩|⟨g,cap,cur,rfl,_,_,hnc,_⟩
  ·simp [Builtin.append_,run_underlying Tryz.underlying34,sizeOf,typeInfo,hi,Builtin.lenOf,Builtin.firstCells]
  ·simp [Builtin.append_,run_underlying Tryz.underlying34,sizeOf,typeInfo,hi,Builtin.lenOf,Builtin.firstCells,hnc,storeCells]
 | some a=>
  have hc:∀ j u,(ts.map Value.string)[j]? = some u→w.cell? (a.add j)=some u:=by
   intro j u hj
   have hlt:j<ts.length:=by
    have:=(List.getElem?_eq_some_iff.1 hj).1
    simpa using this
   rcases h with h|⟨b,o,h,_,h2⟩
   ·subst h;simp at hlt
   ·cases h
    rw [add_none,h2 j hlt]
    rw [List.getElem?_map,List.getElem?_eq_getElem hlt] at hj
    simp only [Option.map_some,Option.some.injEq] at hj
    rw [←hj,List.getD_eq_getElem?_getD,List.getElem?_eq_getElem hlt]
    rfl
  obtain ⟨v',w',h1,h2,h3,_⟩:=run_append_own (P:=Tryz.prog) w base 34 ty 9 i0 (.string ⟨#[]⟩) 1 16 Tryz.underlying34 hi hz0 hz1 hz2 rfl (by decide) v n xs hown a ts.length cap (ts.map Value.string) (by simp) hc (by
   intro u hu
   obtain ⟨t,_,rfl⟩:=List.mem_map.1 hu
   rfl) (by unfold maxLen;omega) (by omega) hbase
  exact ⟨v',w',h1,h2,h3⟩
theorem wpList_append_strs {w:World} {ops:Array Oper} {rest:List Oper} {o:Oper} {a:Act} {Q:Exit→Act→World→Prop} (hgd:o.guard=none) (sl x:Operand)
 (ho:o.op = .call { callee:=.builtin .append,args:=#[sl,x],argTypes:=#[34,34]})
 (base:Nat) (v u:Value) (n:Nat) (xs:List Value) (ts:List ByteArray) (hs:a.eval sl=v) (hx:a.eval x=u) (hown:w.ownsRow base 9 1 v n xs) (hu:Strs w 0 u ts) (hn:n+ts.length≤1000000) (hbase:base≤w.heap.size)
 (h:∀ v' w',w'.ownsRow base 9 1 v' (n+ts.length) (xs ++ ts.map Value.string)→w.grownBy w' v.ownBlock→wpList Tryz.prog ops Q rest (a.put o.dst v') w'):wpList Tryz.prog ops Q (o :: rest) a w:=by
 refine wpList_plain hgd fun K hK=>?_
 obtain ⟨v',w',hr,h2,h3⟩:=run_append_strs w base o.type v u n xs ts hown hu hn hbase
 unfold Oper.wp execOp
 simp only [ho,resolve,invoke,builtin,Sem.run_bind,Sem.run_pure,Result.andThen_ok,List.map_toArray,List.map_cons,List.map_nil,hs,hx,hr]
 exact hK _ _ (h v' w' h2 h3)
end Go.Proofs.YtajmeimjaapagaaGreatDoor.Oc
