/- A part. -/
import Derived.DataShut
import Derived.Test.YtldkapjeheiiaaaGreatDoorEpu56
set_option linter.unusedVariables false
set_option linter.unusedSimpArgs false
namespace Go.Proofs.YtldkapjeheiiaaaGreatDoor
open Go.Joins Go.ChangeShapes Go.WideShapes Go.RowKit Go.Deep
structure OpT where
 k:Int
 n:Int
 p:MsgM×Value
instance:Inhabited OpT:=⟨⟨0,0,default⟩⟩
def OpT.cells (x:OpT):List Value:=.int .i64 x.k :: .int .i64 x.n :: (x.p.1.cells x.p.2).toList
def OpsT (w:World) (v:Value) (os:List OpT):Prop:=
 ∃ a cap,v = .slice a os.length cap∧(os=[]∨∃ b o,a=some ⟨b,o,none⟩∧b<w.heap.size∧∀ k x,os[k]? = some x→∀ i,i<12→w.cell? ⟨b,o+k*12+i,none⟩=x.cells[i]?)
def OpT.ok (w:World) (x:OpT):Prop:=(Lit.int .i64 x.n).wf=true∧Sized w x.p∧CapOk x.p.2
theorem OpsT.form {w:World} {v:Value} {os:List OpT} (h:OpsT w v os):∃ a cap,v = .slice a os.length cap:=by
 obtain ⟨a,cap,e,_⟩:=h
 exact ⟨a,cap,e⟩
theorem OpsT.keep {w w':World} {v:Value} {os:List OpT} (h:OpsT w v os) (hc:Chg (fun _=>False) w w'):OpsT w' v os:=by
 obtain ⟨a,cap,rfl,h⟩:=h
 refine ⟨a,cap,rfl,?_⟩
 rcases h with h|⟨b,o,rfl,hb,h⟩
 ·exact .inl h
 ·refine .inr ⟨b,o,rfl,Nat.lt_of_lt_of_le hb hc.size,fun k x hx i hi=>?_⟩
  rw [←h k x hx i hi]
  exact World.cell?_of_block (hc.block b hb (fun e=>e))
section
variable {H:Type} {enc:TypeId×Value→H} {W:World}
set_option maxRecDepth 100000 in
theorem opt_open {n:Nat} {b o:Nat} {cs:List Value} {y:DataW H×List MemPlace} (hcs:W.cells? 0 ⟨b,o,none⟩ 12=some cs) (h:DataW.trod enc Tryz.prog W 0 (fun _=>true) true n 38 cs=some y) :
 ∃ x:OpT,(∀ i,i<12→W.cell? ⟨b,o+i,none⟩=x.cells[i]?)∧x.ok W:=by
 obtain ⟨_,hlen,hat⟩:=World.cells?_some hcs
 obtain ⟨xs,m,_,_,_,hxl,hf⟩:=DataW.trod_struct Tryz.underlying38 h
 match cs,hlen with
 | [c0,c1,c2,c3,c4,c5,c6,c7,c8,c9,c10,c11],_=>
  have hx:xs.length=3:=hxl
  match xs,hx with
  | [y0,y1,y2],_=>
   have f0:DataW.trod enc Tryz.prog W 0 (fun _=>true) true m 3 [c0]=some y0:=hf 0 _ rfl
   have f1:DataW.trod enc Tryz.prog W 0 (fun _=>true) true m 3 [c1]=some y1:=hf 1 _ rfl
   have f2:DataW.trod enc Tryz.prog W 0 (fun _=>true) true m 36 [c2,c3,c4,c5,c6,c7,c8,c9,c10,c11]=some y2:=hf 2 _ rfl
   obtain ⟨b0,e0,_,_⟩:=DataW.trod_int Tryz.underlying3 f0
   obtain rfl:c0=_:=List.singleton_inj.1 e0
   obtain ⟨b1,e1,_,w1⟩:=DataW.trod_int Tryz.underlying3 f1
   obtain rfl:c1=_:=List.singleton_inj.1 e1
   have at2:∀ j,j<10→W.cell? ⟨b,o+2+j,none⟩=[c2,c3,c4,c5,c6,c7,c8,c9,c10,c11][j]?:=fun j hj=>by
    have:=hat (j+2) (by omega)
    rw [add_none,show o+(j+2)=o+2+j from by omega] at this
    rw [this]
    rfl
   obtain ⟨p,hp,hs,hc⟩:=msg_open (o:=o+2) (World.cells?_of_each (Nat.zero_le _) rfl (fun i hi=>by rw [add_none];exact at2 i hi)) f2
   refine ⟨⟨b0,b1,p⟩,fun i hi=>?_,w1,hs,hc⟩
   have hi0:=hat i hi
   rw [add_none] at hi0
   match i,hi with
   | 0,_=>rw [hi0];rfl
   | 1,_=>rw [hi0];rfl
   | i+2,hi=>
    have:=hp i (by omega)
    rw [show o+(i+2)=o+2+i from by omega,this]
    show _=(p.1.cells p.2).toList[i]?
    rw [Array.getElem?_toList]
set_option maxRecDepth 100000 in
theorem open_opst {n:Nat} {la:Option Addr} {len cap:Nat} {y:DataW H×List MemPlace} (h:DataW.trod enc Tryz.prog W 0 (fun _=>true) true n 22 [.slice la len cap]=some y) :
 ∃ os,OpsT W (.slice la len cap) os∧os.length≤maxLen∧∀ x∈os,x.ok W:=by
 rcases open_slice Tryz.underlying22 h with ⟨hcs,_⟩|⟨a,l,c,m,q,D,Pl,hcs,_,hl,hm,hmm,_,hi⟩
 ·cases hcs
  exact ⟨[],⟨none,0,rfl,.inl rfl⟩,Nat.zero_le _,fun x hx=>by cases hx⟩
 ·cases hcs
  have hC:Tryz.prog.cellsOf 38=12:=by kernel_rfl
  rcases Nat.eq_zero_or_pos len with h0|h0
  ·subst h0
   exact ⟨[],⟨some a,cap,rfl,.inl rfl⟩,Nat.zero_le _,fun x hx=>by cases hx⟩
  ·have hml:len≤m:=by rw [hmm];simpa using hl
   obtain ⟨b,off,spot⟩:=a
   have hspot:spot=none:=by
    obtain ⟨cs',h1,_⟩:=hi 0 (by omega)
    rw [hC] at h1
    obtain ⟨_,hlen,hat⟩:=World.cells?_some h1
    have h2:=hat 0 (by decide)
    rw [List.getElem?_eq_getElem (by omega)] at h2
    simpa [Addr.add] using World.cell?_spot h2
   subst hspot
   obtain ⟨X,hX⟩:=choose_lt (n:=len) (p:=fun i (x:OpT)=>(∀ q,q<12→W.cell? ⟨b,off+i*12+q,none⟩=x.cells[q]?)∧x.ok W) (fun i hil=>by
    obtain ⟨cs',h1,h2⟩:=hi i (by omega)
    rw [hC,add_none] at h1
    exact opt_open h1 h2)
   have hb:b<W.heap.size:=by
    have:=(hX 0 (by omega)).1 0 (by decide)
    rw [show ((X 0).cells)[0]? = some (.int .i64 (X 0).k) from rfl] at this
    exact World.block_lt_of_cell? _ _ this
   refine ⟨(List.range len).map X,⟨_,cap,by simp,.inr ⟨b,off,rfl,hb,fun i x hx=>?_⟩⟩,by simpa using Nat.le_trans hl hm,fun x hx=>?_⟩
   ·rw [List.getElem?_map] at hx
    obtain ⟨j,hj,rfl⟩:=Option.map_eq_some_iff.1 hx
    have hjl:=List.getElem?_eq_some_iff.1 hj
    obtain ⟨h1,h2⟩:=hjl
    rw [List.getElem_range] at h2
    subst h2
    exact (hX _ (by simpa using h1)).1
   ·obtain ⟨i,hil,rfl⟩:=List.mem_map.1 hx
    exact (hX i (List.mem_range.1 hil)).2
end
end Go.Proofs.YtldkapjeheiiaaaGreatDoor
