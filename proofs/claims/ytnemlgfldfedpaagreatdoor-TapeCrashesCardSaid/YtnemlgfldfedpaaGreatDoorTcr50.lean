/- A part. -/
import Derived.DataShut
import Derived.Test.YtnemlgfldfedpaaGreatDoorTcr48
set_option linter.unusedVariables false
set_option linter.unusedSimpArgs false
namespace Go.Proofs.YtnemlgfldfedpaaGreatDoor
open Go.Joins Go.ChangeShapes Go.WideShapes Go.RowKit Go.Deep
section
variable {H:Type} {enc:TypeId×Value→H} {W:World}
theorem ubools_open {n:Nat} {v:Value} {y:DataW H×List MemPlace} (h:DataW.trod enc Tryz.prog W 0 (fun _=>true) true n 23 [v]=some y):∃ zs,BoolsOf W v zs∧zs.length≤maxLen∧True:=by
 rcases open_bools Tryz.underlying23 Tryz.underlying4 (by kernel_rfl) h with ⟨hcs,_⟩|⟨a,l,c,B,hcs,_,hl,hm,_,hcell⟩
 ·obtain rfl:v=_:=List.singleton_inj.1 hcs
  exact ⟨[],⟨none,0,rfl,.inl rfl⟩,Nat.zero_le _,trivial⟩
 ·obtain rfl:v=_:=List.singleton_inj.1 hcs
  refine ⟨(List.range l).map B,⟨some a,c,by simp,?_⟩,by simp;omega,trivial⟩
  rcases Nat.eq_zero_or_pos l with h|h
  ·subst h;exact .inl rfl
  ·right
   obtain ⟨b,off,spot⟩:=a
   have hc:=hcell 0 (by omega)
   have hspot:spot=none:=by simpa [Addr.add] using World.cell?_spot hc
   subst hspot
   refine ⟨b,off,rfl,fun i hi=>?_⟩
   have hi':i<l:=by simpa using hi
   have:=hcell i (by omega)
   rw [add_none] at this
   rw [this]
   simp [List.getD_eq_getElem?_getD,hi']
set_option maxRecDepth 100000 in
theorem open_crash {r:Reach} {bb:Nat} {v:Value} {d:DataW H} {p:List MemPlace} (hv:Value.okWide Tryz.prog W r bb 27 v) (h:DataW.Trod enc Tryz.prog W 0 (fun _=>true) true 27 v d p) :
 ∃ (vL:Value) (ms:List (MsgM×Value)) (sy fu:Int) (vK:Value) (bs:List Bool) (lack:Int),v = .agg #[vL,.int .u8 sy,.int .i64 fu,vK,.int .i64 lack]∧MsgsAt W vL ms∧ms.length≤maxLen∧(∀ p∈ms,Sized W p∧CapOk p.2)∧(Lit.int .u8 sy).wf=true∧(Lit.int .i64 fu).wf=true∧BoolsOf W vK bs∧bs.length≤maxLen:=by
 obtain ⟨cs,rfl,hsz⟩:=okWide_struct Tryz.underlying27 hv
 have hC:Tryz.prog.cellsOf 27=5:=by kernel_rfl
 obtain ⟨l⟩:=cs
 match l,hsz.trans hC with
 | [c0,c1,c2,c3,c4],_=>
  obtain ⟨fuel,hf⟩:=h
  obtain ⟨xs,m,_,_,_,hxl,hg⟩:=DataW.trod_struct Tryz.underlying27 hf
  have hx:xs.length=4:=hxl
  match xs,hx with
  | [y0,y1,y2,y3],_=>
   have f0:DataW.trod enc Tryz.prog W 0 (fun _=>true) true m 22 [c0]=some y0:=hg 0 _ rfl
   have f1:DataW.trod enc Tryz.prog W 0 (fun _=>true) true m 5 [c1]=some y1:=hg 1 _ rfl
   have f2:DataW.trod enc Tryz.prog W 0 (fun _=>true) true m 3 [c2]=some y2:=hg 2 _ rfl
   have f3:DataW.trod enc Tryz.prog W 0 (fun _=>true) true m 25 [c3,c4]=some y3:=hg 3 _ rfl
   obtain ⟨sy,e1,_,w1⟩:=DataW.trod_int Tryz.underlying5 f1
   obtain rfl:c1=_:=List.singleton_inj.1 e1
   obtain ⟨fu,e2,_,w2⟩:=DataW.trod_int Tryz.underlying3 f2
   obtain rfl:c2=_:=List.singleton_inj.1 e2
   obtain ⟨xs2,m2,_,_,_,hxl2,hg2⟩:=DataW.trod_struct Tryz.underlying25 f3
   have hx2:xs2.length=2:=hxl2
   match xs2,hx2 with
   | [z0,z1],_=>
    have g0:DataW.trod enc Tryz.prog W 0 (fun _=>true) true m2 23 [c3]=some z0:=hg2 0 _ rfl
    have g1:DataW.trod enc Tryz.prog W 0 (fun _=>true) true m2 3 [c4]=some z1:=hg2 1 _ rfl
    obtain ⟨lack,e4,_,_⟩:=DataW.trod_int Tryz.underlying3 g1
    obtain rfl:c4=_:=List.singleton_inj.1 e4
    obtain ⟨bs,hb,hbl,_⟩:=ubools_open g0
    obtain ⟨la,len,cap,rfl⟩:∃ la len cap,c0 = .slice la len cap:=by
     rcases open_slice Tryz.underlying22 f0 with ⟨hcs,_⟩|⟨a,l,c,m,q,D,Pl,hcs,_⟩
     ·exact ⟨_,_,_,List.singleton_inj.1 hcs⟩
     ·exact ⟨_,_,_,List.singleton_inj.1 hcs⟩
    obtain ⟨ms,h1,h2,h3⟩:=open_msgs f0
    exact ⟨_,ms,sy,fu,_,bs,lack,rfl,h1,h2,h3,w1,w2,hb,hbl⟩
end
end Go.Proofs.YtnemlgfldfedpaaGreatDoor
