/- A part. -/
import Derived.Deep.DeepCutAuto
import Derived.Deep.RegionHeld3
import Derived.Test.YtajmeimjaapagaaGreatDoorDca27
set_option linter.unusedVariables false
set_option linter.unusedSimpArgs false
namespace Go.Proofs.YtajmeimjaapagaaGreatDoor
open Go.RowKit Go.Deep
abbrev RangeP (w:World) (m r:Nat) (M vis rem:PM) (cnt:Nat):Prop:=RangeK pK recEl w m r M vis rem cnt
section
variable {w:World} {ops:Array Oper} {rest:List Oper} {o:Oper} {a:Act} {Q:Exit→Act→World→Prop}
theorem wpList_range_p (hg:o.guard=none) (m:Operand) (hop:o.op=Op.range 92 m) (mm:Nat) (M:PM)
 (hm:a.eval m = .map (some mm)) (h:MapK pK recEl w mm M)
 (hK:∀ w' cnt,RangeP w' mm w.heap.size M [] M cnt→w.grownBy w' none→w'.heap.size=w.heap.size+1→wpList Tryz.prog ops Q rest (a.put o.dst (.pointer (some ⟨w.heap.size,0,none⟩))) w'):wpList Tryz.prog ops Q (o :: rest) a w:=by
 refine wpList_plain hg fun K' hK'=>?_
 obtain ⟨w',cnt,hrun,r1,r2,r3⟩:=h.range (t:=92) (e:=91) Tryz.underlying92
 unfold Oper.wp
 simp [execOp,hop,hm,hrun,Result.andThen]
 exact hK' _ _ (hK w' cnt r1 r2 r3)
theorem wpList_next_p (hg:o.guard=none) (it:Operand) (hop:o.op=Op.next it false) (mm r:Nat) (M vis rem:PM) (cnt:Nat)
 (hit:a.eval it = .pointer (some ⟨r,0,none⟩)) (h:RangeP w mm r M vis rem cnt)
 (hDone:rem=[]→wpList Tryz.prog ops Q rest (a.put o.dst (.tuple #[.bool false])) w)
 (hMore:∀ (k s d:Int) r1 r2 w' cnt',rem=r1 ++ (k,(s,d)) :: r2→(k,(s,d))∈M→RangeP w' mm r M (vis ++ [(k,(s,d))]) (r1 ++ r2) cnt'→cnt'<cnt→w.grownBy w' (some r)→w'.heap.size=w.heap.size →
  (Instr.entry (.pointer (some ⟨r,0,none⟩))).run Tryz.prog w' = .ok (.tuple #[.int .i64 k,.agg #[.int .i64 s,.int .i64 d]]) w'→wpList Tryz.prog ops Q rest (a.put o.dst (.tuple #[.bool true,.int .i64 k,.agg #[.int .i64 s,.int .i64 d]])) w'):wpList Tryz.prog ops Q (o :: rest) a w:=by
 refine wpList_plain hg fun K' hK'=>?_
 unfold Oper.wp
 rcases RangeK.next (K:=pK) (E:=recEl) h o.type with ⟨h0,hrun⟩|⟨k,⟨s,d⟩,r1,r2,w',cnt',hr,hmem,hrun,hri,hlt,hgr,hsz,hen⟩
 ·simp [execOp,hop,hit,hrun,Result.andThen]
  exact hK' _ _ (hDone h0)
 ·have hrun:(Instr.next (.pointer (some ⟨r,0,none⟩)) false o.type).run Tryz.prog w = .ok (.tuple #[.bool true,.int .i64 k,.agg #[.int .i64 s,.int .i64 d]]) w':=hrun
  simp [execOp,hop,hit,hrun,Result.andThen]
  exact hK' _ _ (hMore k s d r1 r2 w' cnt' hr hmem hri hlt hgr hsz hen)
end
def CtrAt (w:World) (c:Nat) (V:PM):Prop:=w.heap[c]? = some (.cells #[.int .i64 (cntP V 0:Nat),.int .i64 (cntP V 1:Nat),.int .i64 (cntP V 2:Nat),.int .i64 (cntP V 3:Nat)] 117 (0,0))
theorem cnt_snoc (V:PM) (k s d t:Int):cntP (V ++ [(k,(s,d))]) t=cntP V t+if s=t then 1 else 0:=by
 unfold cntP
 rw [List.filter_append,List.length_append]
 by_cases h:s=t<;>simp [h]
theorem ctr_add {w:World} {c:Nat} {V:PM} (h:CtrAt w c V) (k s d:Int) (h1:1≤s) (h3:s≤3) :
 w.cell? ⟨c,s.toNat,none⟩=some (.int .i64 (cntP V s:Nat))∧CtrAt (w.setCell ⟨c,s.toNat,none⟩ (.int .i64 ((cntP V s:Nat)+1))) c (V ++ [(k,(s,d))]):=by
 have hz:w.heap[c]? = some (.cells #[.int .i64 (cntP V 0:Nat),.int .i64 (cntP V 1:Nat),.int .i64 (cntP V 2:Nat),.int .i64 (cntP V 3:Nat)] 117 (0,0)):=h
 have e:∀ t,cntP (V ++ [(k,(s,d))]) t=cntP V t+if s=t then 1 else 0:=cnt_snoc V k s d
 obtain ⟨hlt,hg⟩:=Array.getElem?_eq_some_iff.1 hz
 have h4:s=1∨s=2∨s=3:=by omega
 refine ⟨?_,?_⟩
 ·rw [Lib.cell_of_heap hz]
  rcases h4 with rfl|rfl|rfl<;>rfl
 ·unfold CtrAt
  rw [e 0,e 1,e 2,e 3]
  show (w.heap.modify c _)[c]? = _
  rw [Array.getElem?_eq_getElem (by rw [Array.size_modify];exact hlt),Array.getElem_modify_self,hg]
  rcases h4 with rfl|rfl|rfl<;>rfl
set_option maxHeartbeats 2000000 in
set_option maxRecDepth 100000 in
theorem pcounts_any {w:World} {sb m:Nat} {M:PM} (h:PeI w sb m M) (hn:M.length≤1000000) :
 Calls Tryz.prog 28 #[.pointer (some ⟨sb,0,none⟩)] w fun e w'=>e = .returned (.tuple #[.int .i64 (cntP M 1:Nat),.int .i64 (cntP M 2:Nat),.int .i64 (cntP M 3:Nat)])∧Below w.heap.size w w':=by
 obtain ⟨c0,_⟩:=h.cell
 have hs0:=h.lt.1
 have H:=Lib.hid h
 have HN:=Lib.hid hn
 clear h hn
 go_enter Tryz.func28,Tryz.ntmps28
 go_upto_region 4 with fail
 obtain ⟨C,hC⟩:∃ C,C=w.heap.size:=⟨_,rfl⟩
 obtain ⟨w1,hw1⟩:∃ w1,w1=w.alloc (.cells #[.int .i64 0,.int .i64 0,.int .i64 0,.int .i64 0] 117):=⟨_,rfl⟩
 have hb1:Below w.heap.size w w1:=by rw [hw1];exact below_alloc (Below.refl _ _) _
 have hct:CtrAt w1 C []:=by rw [hw1,hC];exact heap_alloc_new _ _
 have hp1:=H.out.new (Chg.of_below hb1)
 have c1:=hp1.cell.1
 obtain ⟨R,hR⟩:∃ R,R=w1.heap.size:=⟨_,rfl⟩
 have hCR:C<R:=by rw [hR,hC,hw1];simp
 have hmR:m<R:=by rw [hR];exact hp1.lt.2
 have hmC:m<C:=by rw [hC];exact H.out.lt.2
 rw [←hw1,←hC]
 have HB1:=Lib.hid hb1
 have HCT:=Lib.hid hct
 have HP1:=Lib.hid hp1
 have HR:=Lib.hid hR
 have HC:=Lib.hid hC
 clear hw1 hb1 hct hp1 hC hR c0 hs0
 go_wp2_with (at_range;refine wpList_range_p rfl _ rfl m M rfl HP1.out.map ?_;intro w2 cnt2 hrg2 hg2 hs2)
 rw [←HR.out] at hrg2 hs2 ⊢
 have hb2:Below w.heap.size w w2:=below_grown HB1.out hg2 (Nat.le_refl _)
 have hct2:CtrAt w2 C []:=(hg2.block C (Array.getElem?_eq_some_iff.1 HCT.out).1 (by simp)).trans HCT.out
 have hsz2:R<w2.heap.size:=by rw [hs2];omega
 go_frame
 have HRG:=Lib.hid hrg2
 have HB2:=Lib.hid hb2
 have HCT2:=Lib.hid hct2
 clear hrg2 hg2 hs2 hb2 hct2 c1
 go_loopw [7] (fun _ wr=>∃ vis rem cnt,RangeP wr m R M vis rem cnt∧Hid (CtrAt wr C vis)∧Hid (Below w.heap.size w wr)∧R<wr.heap.size) (fun _ wr=>wr.rangeLeft m R)
 case atStart=>exact ⟨[],_,_,HRG.out,HCT2,HB2,hsz2⟩
 case round=>
  obtain ⟨vis,rem,cnt,hrg,HV,HBL,hsz⟩:=hrel
  have HRG1:=Lib.hid hrg
  clear hrg HRG
  obtain ⟨wo,hwo⟩:∃ wo:World,wo=wr:=⟨_,rfl⟩
  subst hwo
  go_wp2_with (at_next;refine wpList_next_p rfl _ rfl m R M vis rem cnt rfl HRG1.out ?cd ?cm)
  case cd=>
   intro hrem
   subst hrem
   have hp:vis.Perm M:=HRG1.out.done
   have hcnt:∀ t,cntP vis t=cntP M t:=fun t=>(hp.filter _).length_eq
   have hv:=HV.out
   unfold CtrAt at hv
   rw [hcnt 0,hcnt 1,hcnt 2,hcnt 3] at hv
   have k1:wo.cell? ⟨C,1,none⟩=some (.int .i64 (cntP M 1:Nat)):=by rw [Lib.cell_of_heap hv];rfl
   have k2:wo.cell? ⟨C,2,none⟩=some (.int .i64 (cntP M 2:Nat)):=by rw [Lib.cell_of_heap hv];rfl
   have k3:wo.cell? ⟨C,3,none⟩=some (.int .i64 (cntP M 3:Nat)):=by rw [Lib.cell_of_heap hv];rfl
   clear hp hcnt hv
   obtain ⟨x1,hx1⟩:∃ x,x=cntP M 1:=⟨_,rfl⟩
   obtain ⟨x2,hx2⟩:∃ x,x=cntP M 2:=⟨_,rfl⟩
   obtain ⟨x3,hx3⟩:∃ x,x=cntP M 3:=⟨_,rfl⟩
   rw [←hx1] at k1
   rw [←hx2] at k2
   rw [←hx3] at k3
   have HX1:=Lib.hid hx1
   have HX2:=Lib.hid hx2
   have HX3:=Lib.hid hx3
   clear hx1 hx2 hx3
   go_wp2_with fail
   go_quiet (fail)
   go_wp2_with fail
   go_ret3
   exact ⟨by rw [←HX1.out,←HX2.out,←HX3.out];rfl,below_drewN HBL.out _⟩
  case cm=>
   intro k s d r1 r2 w3 cnt3 hrem hmem hrg3 hlt hg3 hs3 hen
   have hst:=H.out.good.st _ hmem
   have hb3:Below w.heap.size w w3:=below_grown' HBL.out hg3 (Nat.le_refl _) (by have:=HC.out;omega)
   have hv3:CtrAt w3 C vis:=(hg3.block C (by omega) (by simp;omega)).trans HV.out
   have hlen:vis.length≤1000000:=by
    have h1:=(HRG1.out.2.2.1).length_eq
    have h2:=HN.out
    rw [List.length_append] at h1
    omega
   have hlf:cnt3<wo.rangeLeft m R:=by rw [HRG1.out.left];exact hlt
   have hadd:=ctr_add (w:=(w3.alloc (.cells #[.int .i64 s,.int .i64 d] 91))) ((Below.heap_alloc _ _ _ (by omega)).trans hv3) k s d hst.1 hst.2
   have hcl:cntP vis s≤1000000:=Nat.le_trans (cnt_le _ _) hlen
   obtain ⟨x,hx⟩:∃ x,x=cntP vis s:=⟨_,rfl⟩
   rw [←hx] at hadd hcl
   obtain ⟨hcell,hnew⟩:=hadd
   have HNEW:=Lib.hid hnew
   have HRG3:=Lib.hid hrg3
   have HB3:=Lib.hid hb3
   have HLF:=Lib.hid hlf
   have hw:IntKind.i64.wrap ((x:Int)+1)=(x:Int)+1:=IntWalk.i64_in _ (by omega)
   have hsz3:R<w3.heap.size:=by rw [hs3];exact hsz
   have hC3:C<w3.heap.size:=by omega
   have hR3:R<(w3.alloc (.cells #[.int .i64 s,.int .i64 d] 91)).heap.size:=by simp;omega
   obtain ⟨w4,hw4⟩:∃ w4,w4=w3.alloc (.cells #[.int .i64 s,.int .i64 d] 91):=⟨_,rfl⟩
   have hbx:w4.heap[C]? = some (.cells #[.int .i64 (cntP vis 0:Nat),.int .i64 (cntP vis 1:Nat),.int .i64 (cntP vis 2:Nat),.int .i64 (cntP vis 3:Nat)] 117 (0,0)):=by rw [hw4];exact (Below.heap_alloc _ _ _ hC3).trans hv3
   have hfz:∀ j,w4.frozen? ⟨C,j,none⟩=false:=fun j=>by simp [World.frozen?,hbx]
   have HE:Hid (∀ u V,CtrAt (w4.setCell ⟨C,s.toNat,none⟩ u) C V→RangeP (w4.setCell ⟨C,s.toNat,none⟩ u) m R M (vis ++ [(k,(s,d))]) (r1 ++ r2) cnt3∧Below w.heap.size w (w4.setCell ⟨C,s.toNat,none⟩ u)∧R<(w4.setCell ⟨C,s.toNat,none⟩ u).heap.size∧(w4.setCell ⟨C,s.toNat,none⟩ u).rangeLeft m R<wo.rangeLeft m R):=Lib.hid (by
    intro u V hV
    have e1:∀ q,q<w3.heap.size→q≠C→(w4.setCell ⟨C,s.toNat,none⟩ u).heap[q]? = w3.heap[q]?:=fun q hq hne=>by
     rw [hw4]
     exact (Below.heap_setCell _ _ _ q hne).trans (Below.heap_alloc _ _ _ hq)
    have hr5:RangeP (w4.setCell ⟨C,s.toNat,none⟩ u) m R M (vis ++ [(k,(s,d))]) (r1 ++ r2) cnt3:=hrg3.kept (e1 m (by omega) (by omega)) (e1 R (by omega) (by omega))
    refine ⟨hr5,?_,?_,?_⟩
    ·rw [hw4]
     exact (below_alloc hb3 _).setCell (show w.heap.size≤C by have:=HC.out;omega) _
    ·rw [hw4];simpa using hR3
    ·rw [RangeK.left hr5];exact hlf)
   rw [←hw4] at hcell HNEW
   have kr:w4.cell? ⟨w3.heap.size,0,none⟩=some (.int .i64 s):=by rw [hw4,Lib.cell_of_heap (heap_alloc_new _ _)];rfl
   have h4:s=1∨s=2∨s=3:=by have:=hst.1;have:=hst.2;simp only at *;omega
   clear hrem hmem hst hv3 hb3 hrg3 hlt hg3 hs3 hlf hnew hx hlen hcl hbx hR3 HRG1 HV HBL
   rcases h4 with rfl|rfl|rfl
   all_goals
    simp only [Int.reduceToNat] at hcell HNEW HE
    go_upto_region 7 with fail
    rw [←hw4]
    clear hw4
    go_wp2_with fail
    obtain ⟨e1,e2,e3,e4⟩:=HE.out _ _ HNEW.out
    exact ⟨⟨_,_,_,e1,HNEW,Lib.hid e2,e3⟩,e4⟩
end Go.Proofs.YtajmeimjaapagaaGreatDoor
