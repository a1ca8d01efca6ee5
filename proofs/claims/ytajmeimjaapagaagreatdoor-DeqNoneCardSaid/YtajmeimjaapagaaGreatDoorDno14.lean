/- A part. -/
import Derived.Lib.SmallJoins
import Derived.Test.YtajmeimjaapagaaGreatDoorDno5
set_option linter.unusedVariables false
set_option linter.unusedSimpArgs false
namespace Go.Proofs.YtajmeimjaapagaaGreatDoor
open Go.Joins Go.ChangeShapes Go.WideShapes Go.RowKit Go.Deep
set_option maxRecDepth 100000 in
theorem open_three {H:Type} {enc:TypeId×Value→H} {w:World} {r:Reach} {bb:Nat} {v:Value} {d:DataW H} {p:List MemPlace} (hv:Value.okWide Tryz.prog w r bb 57 v) (h:DataW.Trod enc Tryz.prog w 0 (fun _=>true) true 57 v d p) :
 ∃ b0 b1 b2:Bool,v = .agg #[.bool b0,.bool b1,.bool b2]:=by
 have ha:=Tryz.underlying57
 have hC:Tryz.prog.cellsOf 57=3:=by kernel_rfl
 have hE:Tryz.prog.cellsOf 4=1:=by kernel_rfl
 simp only [Value.okWide,ha] at hv
 obtain ⟨cs,rfl,hsz,_⟩:=hv
 obtain ⟨l⟩:=cs
 match l,hsz.trans hC with
 | [c0,c1,c2],_=>
  obtain ⟨fuel,hf⟩:=h
  obtain ⟨xs,m,_,_,_,hl,hg⟩:=DataW.trod_array ha hf
  match xs,hl with
  | [y0,y1,y2],_=>
   have g0:DataW.trod enc Tryz.prog w 0 (fun _=>true) true m 4 [c0]=some y0:=by simpa [Value.cells,hE] using hg 0 (by decide)
   have g1:DataW.trod enc Tryz.prog w 0 (fun _=>true) true m 4 [c1]=some y1:=by simpa [Value.cells,hE] using hg 1 (by decide)
   have g2:DataW.trod enc Tryz.prog w 0 (fun _=>true) true m 4 [c2]=some y2:=by simpa [Value.cells,hE] using hg 2 (by decide)
   obtain ⟨z0,e0,_⟩:=DataW.trod_bool Tryz.underlying4 g0
   obtain ⟨z1,e1,_⟩:=DataW.trod_bool Tryz.underlying4 g1
   obtain ⟨z2,e2,_⟩:=DataW.trod_bool Tryz.underlying4 g2
   obtain rfl:c0=_:=List.singleton_inj.1 e0
   obtain rfl:c1=_:=List.singleton_inj.1 e1
   obtain rfl:c2=_:=List.singleton_inj.1 e2
   exact ⟨z0,z1,z2,rfl⟩
end Go.Proofs.YtajmeimjaapagaaGreatDoor
