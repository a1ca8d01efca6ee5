/- A part. -/
import Derived.Test.YtajmeimjaapagaaGreatDoorDor32
import Derived.Test.YtajmeimjaapagaaGreatDoorDor55
import Derived.Test.YtajmeimjaapagaaGreatDoorDor60
set_option linter.unusedVariables false
set_option linter.unusedSimpArgs false
namespace Go.Proofs.YtajmeimjaapagaaGreatDoor
open Go.RowKit Go.Deep
theorem chg_lays (g:Nat):∀ (vs:List Value) (o:Nat) (w:World),Chg (fun k=>k=g) w (w.setCells g o vs)
 | [],_,w=>Chg.refl _ _
 | v :: r,o,w=>by
  unfold World.setCells
  exact (Chg.setCell (S:=fun k=>k=g) (Chg.refl _ w) (fun _=>rfl) v).trans (chg_lays g r (o+1) _) (fun _ _ e=>e)
theorem append_Is {w:World} {base:Nat} {v u:Value} {ids:List Int} (ys:List Int) (hown:OwnI w base v ids) (hu:Ints w u ys) (hn:ids.length+ys.length≤1000000) (hb:base≤w.heap.size) (ty:TypeId) :
 ∃ v' w',(Builtin.append_ #[52,52] ty #[v,u]).run Tryz.prog w = .ok v' w'∧OwnI w' base v' (ids ++ ys)∧w.grownBy w' v.ownBlock∧(v'.ownBlock=v.ownBlock∨v'.ownBlock=some w.heap.size):=by
 obtain ⟨i0,hi,hz0,hz1,hz2⟩:=info_parts info_num
 obtain ⟨a,c,rfl,h⟩:=hu
 by_cases hy:ys=[]
 ·subst hy
  refine ⟨v,w,?_,by simpa using hown,grownBy_refl _ _,.inl rfl⟩
  rcases hown with ⟨rfl,rfl⟩|⟨g,o,cap,rfl,_,_,h1,_⟩
  ·simp [Builtin.append_,run_underlying Tryz.underlying52,sizeOf,typeInfo,hi,Builtin.lenOf,Builtin.firstCells]
   cases a<;>simp [Builtin.firstCells,loadCells,loadCellsFrom]
  ·cases a<;>simp [Builtin.append_,run_underlying Tryz.underlying52,sizeOf,typeInfo,hi,Builtin.lenOf,Builtin.firstCells,loadCells,loadCellsFrom,h1,storeCells]
 have hlen1:1≤ys.length:=by
  cases ys with
  | nil=>exact absurd rfl hy
  | cons y l=>simp
 obtain ⟨g,og,rfl,hk⟩:∃ g og,a=some ⟨g,og,none⟩∧∀ i,i<ys.length→w.cell? ⟨g,og+i,none⟩=some (.int .i64 (ys.getD i 0)):=by
  rcases h with h|⟨b,o,h,h2⟩
  ·exact absurd h hy
  ·exact ⟨b,o,h,h2⟩
 clear h
 obtain ⟨ks,hks⟩:∃ ks,ks=ys.map (Value.int .i64):=⟨_,rfl⟩
 have hkl:ks.length=ys.length:=by rw [hks,List.length_map]
 have hnews:∀ j u,ks[j]? = some u→w.cell? ((⟨g,og,none⟩:Addr).add j)=some u:=fun j u hu=>by
  have hj:j<ys.length:=by have:=(List.getElem?_eq_some_iff.1 hu).1;omega
  rw [add_none,hk j hj]
  rw [hks,List.getElem?_map,List.getElem?_eq_getElem hj] at hu
  rw [List.getD_eq_getElem?_getD,List.getElem?_eq_getElem hj]
  simpa using hu
 have h1:∀ u∈ks,u.oneCell'=true:=fun u hu=>by
  rw [hks] at hu
  obtain ⟨t,_,rfl⟩:=List.mem_map.1 hu
  rfl
 have hlen:(ids ++ ys).length=ids.length+ys.length:=by simp
 have hnew:∀ old,OwnI (w.drew.alloc (.cells ((ids.map (Value.int .i64) ++ ks).toArray ++ Builtin.zeroCells (Value.int .i64 0).cells (grownCap w (ids.length+ys.length) old 3 - (ids.length+ys.length))) 3)) base (.slice (some ⟨w.heap.size,0,none⟩) (ids.length+ys.length) (grownCap w (ids.length+ys.length) old 3)) (ids ++ ys):=fun old=>by
  have hge:=grownCap_ge w (ids.length+ys.length) old 3
  have hcm:=grownCap_le_maxLen w (ids.length+ys.length) old 3 (by unfold maxLen;omega)
  rw [←hlen] at hge hcm ⊢
  refine ownI_new w.drew base _ (ids ++ ys) _ hb hge hcm ?_ (fun j hj=>?_)
  ·simp only [Array.size_append,List.size_toArray,size_zeroCells,List.length_append,List.length_map,hkl]
   rw [show (Value.int .i64 0).cells.size=1 from rfl]
   simp only [List.length_append] at hge
   omega
  ·rw [hks,show ids.map (Value.int .i64) ++ ys.map (Value.int .i64)=(ids ++ ys).map (Value.int .i64) from by simp]
   rw [Array.getElem?_append_left (by simpa using hj),List.getElem?_toArray,List.getElem?_map,List.getElem?_eq_getElem hj,List.getD_eq_getElem?_getD,List.getElem?_eq_getElem hj]
   rfl
 have hgr:∀ (arr:Array Value) (row:Option Nat),w.grownBy (w.drew.alloc (.cells arr 3)) row:=fun arr row=>⟨rfl,rfl,rfl,by simp,fun k hk _=>Below.heap_alloc w.drew _ k hk⟩
 rcases hown with ⟨rfl,rfl⟩|⟨g0,o,cap,rfl,hbg,hg,hl,hm,hcell,hfree⟩
 ·have hr:=run_append_nil (P:=Tryz.prog) w 52 ty 3 i0 _ Tryz.underlying52 hi hz0 ⟨g,og,none⟩ ys.length c ks (by rw [hz1,hkl];omega) hnews (by omega) (by omega) (by rw [hz2];omega)
  have hn0:=hnew 0
  simp only [List.map_nil,List.nil_append,List.length_nil,Nat.zero_add] at hn0 hr ⊢
  exact ⟨_,_,hr,hn0,hgr _ _,.inr rfl⟩
 ·have hsrc:∀ s,s=1→Src Tryz.prog s 52 (.slice (some ⟨g,og,none⟩) ys.length c) ys.length ks w:=fun s hs=>by subst hs;exact Src.ofSlice w Tryz.underlying52 ⟨g,og,none⟩ ys.length c _ (by rw [hkl];omega) hnews h1
  by_cases hroom:ids.length+ys.length≤cap
  ·have hr:=run_append_room_src (P:=Tryz.prog) (w:=w) 52 52 ty 3 i0 Tryz.underlying52 hi g0 o ids.length cap _ ys.length _ (hsrc _ hz1) hroom
    (fun j hj=>by rw [hz1,Nat.mul_one,Nat.add_assoc];exact (hfree _ (by omega)).1) (fun j hj=>by rw [hz1,Nat.mul_one,Nat.add_assoc];exact (hfree _ (by omega)).2)
   rw [hz1,Nat.mul_one] at hr
   have hin:=World.cell?_setCells_in g0 ks (o+ids.length) w (fun j hj=>by rw [Nat.add_assoc];exact (hfree _ (by omega)).1)
   have hout:∀ j,j<ids.length∨ids.length+ys.length≤j→(w.setCells g0 (o+ids.length) ks).cell? ⟨g0,o+j,none⟩=w.cell? ⟨g0,o+j,none⟩:=fun j hj=>World.cell?_setCells_out g0 _ _ w _ (fun _ _=>by show o+j<_∨_;simp;omega)
   have hfz:∀ x,(w.setCells g0 (o+ids.length) ks).frozen? x=w.frozen? x:=fun x=>World.frozen?_setCells g0 _ _ w x
   have hch:Chg (fun q=>q=g0) w (w.setCells g0 (o+ids.length) ks):=chg_lays g0 ks (o+ids.length) w
   refine ⟨_,_,hr,.inr ⟨g0,o,cap,by rw [hlen],hbg,Nat.lt_of_lt_of_le hg hch.size,by omega,hm,fun j hj=>?_,fun j hj=>?_⟩,hch.grown (row:=some g0) (fun q _ e=>by rw [e]),.inl rfl⟩
   ·rw [hlen] at hj
    by_cases he:ids.length≤j
    ·have hx:=hin (j - ids.length) (by omega)
     rw [show o+ids.length+(j - ids.length)=o+j by omega] at hx
     rw [hx]
     simp [hks,List.getD_eq_getElem?_getD,List.getElem?_append_right he,List.getElem?_eq_getElem (show j - ids.length<ys.length by omega)]
    ·rw [hout j (.inl (by omega)),hcell j (by omega)]
     simp [List.getD_eq_getElem?_getD,List.getElem?_append_left (show j<ids.length by omega)]
   ·rw [hfz]
    refine ⟨?_,(hfree j hj).2⟩
    by_cases he:j<ids.length∨ids.length+ys.length≤j
    ·rw [hout j he]
     exact (hfree j hj).1
    ·have hx:=hin (j - ids.length) (by omega)
     rw [show o+ids.length+(j - ids.length)=o+j by omega] at hx
     rw [hx]
     rfl
  ·have hold:=run_firstCells_some (P:=Tryz.prog) w.drew 1 ids.length ⟨g0,o,none⟩ ids.length cap (ids.map (Value.int .i64)) (by simp) (fun j u hu=>by
    rw [List.getElem?_map] at hu
    by_cases hj:j<ids.length
    ·rw [List.getElem?_eq_getElem hj] at hu
     have e:=hcell j hj
     rw [List.getD_eq_getElem?_getD,List.getElem?_eq_getElem hj] at e
     rw [add_none]
     exact e.trans hu
    ·rw [List.getElem?_eq_none (by omega)] at hu
     cases hu)
   rw [←hz1] at hold
   have hr:=run_append_grow_src (P:=Tryz.prog) (w:=w) 52 52 ty 3 i0 _ Tryz.underlying52 hi hz0 (some ⟨g0,o,none⟩) ids.length cap (ids.map (Value.int .i64)) hold _ ys.length _ (hsrc _ hz1) (by omega) (by omega) (growslice_fits (by omega) (by rw [hz2];omega))
   exact ⟨_,_,hr,hnew cap,hgr _ _,.inr rfl⟩
structure EnG where
 x:TpG
 M:PM
 F:Nat→Prop
 n:Nat
 hd:Nat
 P:Nat
 cap:Nat
 ws:WL
 v:Value
 L:List Int
structure EnB where
 eb:Nat
 tb:Nat
 sb:Nat
 mb:Nat
 lb:Nat
def EnG.part (B:EnB) (z:EnG) (i q:Nat):Prop:=match i with
 | 0=>q=B.eb
 | 1=>z.x.own B.tb q
 | 2=>q=B.sb∨q=B.mb
 | 3=>z.F q
 | 4=>z.v.ownBlock=some q
 | _=>False
def EnG.own (B:EnB) (z:EnG) (q:Nat):Prop:=∃ i,z.part B i q
def enqC (B:EnB) (v:Value):Array Value:=#[.pointer (some ⟨B.tb,0,none⟩),.pointer (some ⟨B.sb,0,none⟩),.pointer (some ⟨B.lb,0,none⟩),v]
structure EnI (w0 w:World) (B:EnB) (z:EnG):Prop where
 at_:w.heap[B.eb]? = some (.cells (enqC B z.v) 85 (0,0))
 low:w0.heap.size≤B.eb
 tp:TpI w0 w B.tb z.x
 pe:PeI w B.sb B.mb z.M
 plow:w0.heap.size≤B.sb∧w0.heap.size≤B.mb
 lg:TJ w0 w z.F B.lb z.n z.hd z.P z.cap z.ws
 row:OwnI w w0.heap.size z.v z.L
 ap:∀ i j,i≠j→∀ q,z.part B i q→¬ z.part B j q
variable {w0 w w':World} {B:EnB} {z z':EnG}
theorem EnI.lt (h:EnI w0 w B z):∀ q,z.own B q→q<w.heap.size:=fun q hq=>by
 obtain ⟨i,hi⟩:=hq
 match i,hi with
 | 0,hi=>exact (show q=B.eb from hi)▸(Array.getElem?_eq_some_iff.1 h.at_).1
 | 1,hi=>exact h.tp.lt q hi
 | 2,hi=>
  rcases (show q=B.sb∨q=B.mb from hi) with a|a
  ·rw [a];exact h.pe.lt.1
  ·rw [a];exact h.pe.lt.2
 | 3,hi=>exact (h.lg.low q hi).2
 | 4,hi=>exact (h.row.lt q hi).2
theorem EnI.away {S:Nat→Prop} (h:EnI w0 w B z) (hc:Chg S w w') (hS:∀ q,z.own B q→¬ S q) (hl:∀ q,S q→w0.heap.size≤q):EnI w0 w' B z:=
 ⟨hc.heap h.at_ (hS _ ⟨0,rfl⟩),h.low,h.tp.away hc (fun q hq=>hS q ⟨1,hq⟩) hl,h.pe.chg hc (hS _ ⟨2,.inl rfl⟩) (hS _ ⟨2,.inr rfl⟩),h.plow,
  h.lg.chgd hc (fun q hq=>hS q ⟨3,hq⟩) (fun q hq hx=>by have:=hl q hx;omega),h.row.chg hc (fun g hg=>hS g ⟨4,hg⟩),h.ap⟩
theorem EnI.new (h:EnI w0 w B z) (hc:Chg (fun _=>False) w w'):EnI w0 w' B z:=h.away hc (fun _ _ x=>x) (fun _ x=>x.elim)
theorem EnI.cells (h:EnI w0 w B z):w.cell? ⟨B.eb,0,none⟩=some (.pointer (some ⟨B.tb,0,none⟩))∧w.cell? ⟨B.eb,1,none⟩=some (.pointer (some ⟨B.sb,0,none⟩))∧w.cell? ⟨B.eb,2,none⟩=some (.pointer (some ⟨B.lb,0,none⟩)) ∧
 w.cell? ⟨B.eb,3,none⟩=some z.v∧∀ i,w.frozen? ⟨B.eb,i,none⟩=false:=by
 have h:=h.at_
 refine ⟨?_,?_,?_,?_,fun i=>?_⟩<;>simp [World.cell?,World.frozen?,h,enqC]
theorem EnI.turn (h:EnI w0 w B z) (i0:Nat) (hj:∀ j,j≠i0→z'.part B j=z.part B j) (hn:∀ q,z'.part B i0 q→z.part B i0 q∨w.heap.size≤q):∀ i j,i≠j→∀ q,z'.part B i q→¬ z'.part B j q:=by
 intro i j hij q hi hx
 by_cases e:i=i0
 ·subst e
  rw [hj j (Ne.symm hij)] at hx
  rcases hn q hi with a|a
  ·exact h.ap i j hij q a hx
  ·have:=h.lt q ⟨j,hx⟩;omega
 ·rw [hj i e] at hi
  by_cases e2:j=i0
  ·subst e2
   rcases hn q hx with a|a
   ·exact h.ap i j hij q hi a
   ·have:=h.lt q ⟨i,hi⟩;omega
  ·rw [hj j e2] at hx
   exact h.ap i j hij q hi hx
theorem qto_turn (i0:Nat) (hj:∀ j,j≠i0→z'.part B j=z.part B j) (hq:QTo w (z.part B i0) w' (z'.part B i0)):QTo w (z.own B) w' (z'.own B):=by
 refine ⟨hq.chg.wide (fun q _ a=>⟨i0,a⟩),fun q hx=>?_⟩
 obtain ⟨i,hi⟩:=hx
 by_cases e:i=i0
 ·subst e
  exact (hq.new q hi).imp (fun a=>⟨i,a⟩) id
 ·rw [hj i e] at hi
  exact .inl ⟨i,hi⟩
theorem EnI.tape (h:EnI w0 w B z) {x':TpG} (hx:TpI w0 w' B.tb x') (hq:QTo w (z.x.own B.tb) w' (x'.own B.tb)):EnI w0 w' B { z with x:=x' }∧QTo w (z.own B) w' (EnG.own B { z with x:=x' }):=by
 have hj:∀ j,j≠1→EnG.part B { z with x:=x' } j=z.part B j:=fun j hj=>by
  match j,hj with
  | 0,_=>rfl
  | 1,hj=>exact absurd rfl hj
  | 2,_=>rfl
  | 3,_=>rfl
  | 4,_=>rfl
  | _+5,_=>rfl
 have hq':QTo w (z.part B 1) w' (EnG.part B { z with x:=x' } 1):=hq
 refine ⟨⟨hq.chg.heap h.at_ (h.ap 0 1 (by decide) _ rfl),h.low,hx,h.pe.chg hq.chg (h.ap 2 1 (by decide) _ (.inl rfl)) (h.ap 2 1 (by decide) _ (.inr rfl)),h.plow,
  h.lg.chgd hq.chg (h.ap 3 1 (by decide)) (fun q hl hx=>by have:=h.tp.low q hx;omega),h.row.chg hq.chg (h.ap 4 1 (by decide)),h.turn 1 hj hq'.new⟩,qto_turn 1 hj hq'⟩
theorem EnI.pend (h:EnI w0 w B z) {M':PM} (hp:PeI w' B.sb B.mb M') (hc:Chg (fun q=>q=B.mb) w w'):EnI w0 w' B { z with M:=M' }∧QTo w (z.own B) w' (EnG.own B { z with M:=M' }):=by
 have ha:∀ i,i≠2→∀ q,z.part B i q→¬ q=B.mb:=fun i hi q hq e=>h.ap i 2 hi q hq (.inr e)
 have hj:∀ j,EnG.part B { z with M:=M' } j=z.part B j:=fun j=>by
  match j with
  | 0=>rfl
  | 1=>rfl
  | 2=>rfl
  | 3=>rfl
  | 4=>rfl
  | _+5=>rfl
 refine ⟨⟨hc.heap h.at_ (ha 0 (by decide) _ rfl),h.low,h.tp.away hc (ha 1 (by decide)) (fun q hx=>hx▸h.plow.2),hp,h.plow,
  h.lg.chgd hc (ha 3 (by decide)) (fun q hl hx=>by have:=h.plow.2;omega),h.row.chg hc (ha 4 (by decide)),fun i j hij q=>by rw [hj i,hj j];exact h.ap i j hij q⟩,⟨hc.wide (fun q _ a=>⟨2,.inr a⟩),fun q hq=>by
   obtain ⟨i,hi⟩:=hq
   rw [hj i] at hi
   exact .inl ⟨i,hi⟩⟩⟩
theorem EnI.log (h:EnI w0 w B z) {F':Nat→Prop} {n hd P:Nat} {ws:WL} (hl:TJ w0 w' F' B.lb n hd P z.cap ws) (hf:FTo z.F w F' w'):EnI w0 w' B { z with F:=F',n:=n,hd:=hd,P:=P,ws:=ws }∧QTo w (z.own B) w' (EnG.own B { z with F:=F',n:=n,hd:=hd,P:=P,ws:=ws }):=by
 have hj:∀ j,j≠3→EnG.part B { z with F:=F',n:=n,hd:=hd,P:=P,ws:=ws } j=z.part B j:=fun j hj=>by
  match j,hj with
  | 0,_=>rfl
  | 1,_=>rfl
  | 2,_=>rfl
  | 3,hj=>exact absurd rfl hj
  | 4,_=>rfl
  | _+5,_=>rfl
 have hq':QTo w (z.part B 3) w' (EnG.part B { z with F:=F',n:=n,hd:=hd,P:=P,ws:=ws } 3):=⟨hf.chg,hf.fp⟩
 refine ⟨⟨hf.chg.heap h.at_ (h.ap 0 3 (by decide) _ rfl),h.low,h.tp.away hf.chg (h.ap 1 3 (by decide)) (fun q hx=>(h.lg.low q hx).1),h.pe.chg hf.chg (h.ap 2 3 (by decide) _ (.inl rfl)) (h.ap 2 3 (by decide) _ (.inr rfl)),h.plow,
  hl,h.row.chg hf.chg (h.ap 4 3 (by decide)),h.turn 3 hj hq'.new⟩,qto_turn 3 hj hq'⟩
theorem EnI.lates (h:EnI w0 w B z) {w1:World} {v:Value} {L:List Int} (hc:Chg (fun q=>z.v.ownBlock=some q) w w1) (hr:OwnI w1 w0.heap.size v L) (hn:∀ q,v.ownBlock=some q→z.v.ownBlock=some q∨w.heap.size≤q) :
 EnI w0 (w1.setCell ⟨B.eb,3,none⟩ v) B { z with v:=v,L:=L }∧QTo w (z.own B) (w1.setCell ⟨B.eb,3,none⟩ v) (EnG.own B { z with v:=v,L:=L }):=by
 have hch:Chg (fun q=>q=B.eb) w1 (w1.setCell ⟨B.eb,3,none⟩ v):=Chg.setCell (S:=fun q=>q=B.eb) (p:=⟨B.eb,3,none⟩) (Chg.refl _ _) (fun _=>rfl) _
 have hcc:Chg (fun q=>q=B.eb∨z.v.ownBlock=some q) w (w1.setCell ⟨B.eb,3,none⟩ v):=(hc.wide (fun q _ a=>.inr a)).trans (hch.wide (fun q _ a=>.inl a)) (fun _ _ x=>x)
 have hj:∀ j,j≠4→EnG.part B { z with v:=v,L:=L } j=z.part B j:=fun j hj=>by
  match j,hj with
  | 0,_=>rfl
  | 1,_=>rfl
  | 2,_=>rfl
  | 3,_=>rfl
  | 4,hj=>exact absurd rfl hj
  | _+5,_=>rfl
 have ha:∀ i,i≠0→i≠4→∀ q,z.part B i q→¬ (q=B.eb∨z.v.ownBlock=some q):=fun i h0 h4 q hq e=>e.elim (h.ap i 0 h0 q hq) (h.ap i 4 h4 q hq)
 have hlow:∀ q,q=B.eb∨z.v.ownBlock=some q→w0.heap.size≤q:=fun q hx=>hx.elim (fun e=>e▸h.low) (fun e=>(h.row.lt q e).1)
 have hap:=h.turn (z':={ z with v:=v,L:=L }) 4 hj hn
 refine ⟨⟨?_,h.low,h.tp.away hcc (ha 1 (by decide) (by decide)) hlow,h.pe.chg hcc (ha 2 (by decide) (by decide) _ (.inl rfl)) (ha 2 (by decide) (by decide) _ (.inr rfl)),h.plow,
  h.lg.chgd hcc (ha 3 (by decide) (by decide)) (fun q hl hx=>by have:=hlow q hx;omega),hr.chg hch (fun g hg e=>hap 4 0 (by decide) g hg e),hap⟩,hcc.wide (fun q _ a=>a.elim (fun e=>⟨0,e⟩) (fun e=>⟨4,e⟩)),fun q hq=>?_⟩
 ·exact heap_setCell_same w1 B.eb 3 _ _ v (hc.heap h.at_ (h.ap 0 4 (by decide) _ rfl))
 ·obtain ⟨i,hi⟩:=hq
  by_cases e:i=4
  ·subst e
   exact (hn q hi).imp (fun a=>⟨4,a⟩) id
  ·rw [hj i e] at hi
   exact .inl ⟨i,hi⟩
theorem EnI.apps (h:EnI w0 w B z) (ys:List Int) {u:Value} (hu:Ints w u ys) (hl:z.L.length+ys.length≤1000000) (ty:TypeId):∃ v' w',(Builtin.append_ #[52,52] ty #[z.v,u]).run Tryz.prog w = .ok v' w' ∧
 (∀ i,w'.cell? ⟨B.eb,i,none⟩=w.cell? ⟨B.eb,i,none⟩)∧(∀ i,w'.frozen? ⟨B.eb,i,none⟩=false)∧EnI w0 (w'.setCell ⟨B.eb,3,none⟩ v') B { z with v:=v',L:=z.L ++ ys }∧QTo w (z.own B) (w'.setCell ⟨B.eb,3,none⟩ v') (EnG.own B { z with v:=v',L:=z.L ++ ys }) ∧
 Chg (fun q=>q=B.eb∨z.v.ownBlock=some q) w (w'.setCell ⟨B.eb,3,none⟩ v')∧∀ q,v'.ownBlock=some q→z.v.ownBlock=some q∨w.heap.size≤q:=by
 have hb0:w0.heap.size≤w.heap.size:=by
  have h1:=h.lt _ ⟨0,rfl⟩
  have h2:=h.low
  omega
 obtain ⟨v',w5,hrun,hA,hgr,hob⟩:=append_Is ys h.row hu hl hb0 ty
 have hcg:=Chg.of_grown (S:=fun q=>z.v.ownBlock=some q) hgr (fun q hq _=>hq)
 have hn:∀ q,v'.ownBlock=some q→z.v.ownBlock=some q∨w.heap.size≤q:=fun q hq=>by
  rcases hob with e|e
  ·rw [e] at hq;exact .inl hq
  ·rw [e] at hq
   injection hq with hq
   exact .inr (by omega)
 have he:w5.heap[B.eb]? = _:=hcg.heap h.at_ (h.ap 0 4 (by decide) _ rfl)
 obtain ⟨k1,k2⟩:=h.lates hcg hA hn
 have hch:Chg (fun q=>q=B.eb) w5 (w5.setCell ⟨B.eb,3,none⟩ v'):=Chg.setCell (S:=fun q=>q=B.eb) (p:=⟨B.eb,3,none⟩) (Chg.refl _ _) (fun _=>rfl) _
 exact ⟨v',w5,hrun,fun i=>by simp [World.cell?,he,h.at_],fun i=>by simp [World.frozen?,he],k1,k2,(hcg.wide (fun q _ a=>.inr a)).trans (hch.wide (fun q _ a=>.inl a)) (fun _ _ x=>x),hn⟩
theorem getP_drop (M:PM) (a b:Int) (h:b≠a):getK (dropK M a) b=getK M b:=by
 unfold getK dropK
 congr 1
 induction M with
 | nil=>rfl
 | cons p M ih=>
  rw [List.filter_cons]
  by_cases hp:p.1=a
  ·rw [if_neg (by simp [hp]),ih,List.find?_cons_of_neg (by simp [hp];exact fun e=>h e.symm)]
  ·rw [if_pos (by simp [hp])]
   by_cases hb:p.1=b
   ·rw [List.find?_cons_of_pos (by simp [hb]),List.find?_cons_of_pos (by simp [hb])]
   ·rw [List.find?_cons_of_neg (by simp [hb]),List.find?_cons_of_neg (by simp [hb]),ih]
theorem getP_put (M:PM) (a:Int) (r:Int×Int) (b:Int):getK (putP M a r) b=if b=a then some r else getK M b:=by
 by_cases h:b=a
 ·subst h
  rw [if_pos rfl]
  have h1:(dropK M b).find? (fun p=>decide (p.1=b))=none:=List.find?_eq_none.2 fun p hp=>by
   have:=(List.mem_filter.1 hp).2
   simpa using this
  unfold putP getK
  rw [List.find?_append,h1]
  simp
 ·rw [if_neg h,←getP_drop M a b h]
  unfold putP getK
  rw [List.find?_append]
  cases hf:(dropK M a).find? (fun p=>decide (p.1=b)) with
  | some p=>rfl
  | none=>
   simp
   exact fun e:a=b=>h e.symm
theorem stP_put (M:PM) (a:Int) (r:Int×Int) (b:Int):stP (putP M a r) b=if b=a then r.1 else stP M b:=by
 unfold stP
 rw [getP_put]
 split<;>rfl
theorem note_new {M:PM} {id due ref:Int} (h0:0≤id) (hs:stP M id=0):(noteP M id 2 due ref).2=putP M id (1,due):=by
 unfold noteP
 rw [if_neg (by omega)]
 have e:ofP id 2 ref=id:=by unfold ofP;rw [if_pos rfl]
 rw [e]
 have hb:behP ((getK M id).getD (0,0)) 2 due=(1,due):=by unfold behP;rw [if_pos ⟨hs,rfl⟩]
 rw [hb,if_neg]
 intro hx
 unfold stP at hs
 rw [←hx] at hs
 cases hs
theorem stP_absent {M:PM} {a:Int} (h:a∉M.map (·.1)):stP M a=0:=by
 unfold stP
 rw [getK_not (fun p hp e=>h (List.mem_map.2 ⟨p,hp,e⟩))]
 rfl
theorem putP_keys {M:PM} (h:GoodP M) {a:Int} (ha:stP M a≠0) (r:Int×Int):((putP M a r).map (·.1)).Perm (M.map (·.1)):=by
 have hm:=getP_mem ha
 obtain ⟨r1,r2,e⟩:=List.append_of_mem hm
 have hn:=h.nodup
 rw [e,List.map_append,List.map_cons,List.nodup_append] at hn
 obtain ⟨_,h2,h3⟩:=hn
 rw [List.nodup_cons] at h2
 have e1:dropK r1 a=r1:=List.filter_eq_self.2 fun p hp=>by
  have:=h3 _ (List.mem_map_of_mem hp) _ (List.mem_cons_self ..)
  simpa using this
 have e2:dropK r2 a=r2:=List.filter_eq_self.2 fun p hp=>by
  have:p.1≠a:=fun e=>h2.1 (List.mem_map.2 ⟨p,hp,e⟩)
  simpa using this
 have e3:dropK M a=r1 ++ r2:=by
  rw [e]
  unfold dropK at e1 e2 ⊢
  rw [List.filter_append,List.filter_cons,e1,e2]
  simp
 unfold putP
 rw [e3]
 conv=>rhs;rw [e]
 simp only [List.map_append,List.map_cons,List.map_nil,List.append_assoc]
 exact List.Perm.append_left _ List.perm_append_comm
def RS (z:EnG):List RcM:=recsI (1024*z.x.i0) z.x.l
theorem due_ok {M:MsgM} {bs:List UInt8} (hp:putO M=some bs):0≤M.due∧M.due≤1099511627776:=by
 unfold putO at hp
 have hr:rightB M=true:=by
  cases h:rightB M with
  | true=>rfl
  | false=>rw [h] at hp;simp at hp
 unfold rightB at hr
 rw [Bool.and_eq_true] at hr
 exact allIn_iff.1 hr.1 M.due (by simp [MsgM.nums])
structure OnTape (x:TpG) (r:RcM):Prop where
 mem:r∈recsI (1024*x.i0) x.l
 end_:1024*x.i0+(bytesI x.l).length≤1000000000
theorem OnTape.put {w0 w:World} {tb:Nat} {x:TpG} {r:RcM} (h:OnTape x r) (hi:TpI w0 w tb x):r.m.kind≠0∧∃ bs,putO r.m=some bs∧r.len=bs.length∧3≤r.len∧r.len≤327∧1024*x.i0≤r.id∧r.id+r.len≤1024*x.i0+(bytesI x.l).length:=recsI_put hi.la' r h.mem
theorem OnTape.read {w0 w:World} {tb:Nat} {x:TpG} {r:RcM} (h:OnTape x r) (hi:TpI w0 w tb x):Calls Tryz.prog 26 #[.pointer (some ⟨tb,0,none⟩),.int .i64 (r.id:Int)] w (ReadTo r.m 0 w):=by
 obtain ⟨l1,bs,l2,e1,e2,e3,e4⟩:=recsI_split r h.mem
 have ht:=hi
 unfold TpI at ht
 have he:=h.end_
 rw [e1] at ht he
 rw [bytesI_app,List.length_append] at he
 rw [e3]
 exact ht.read e2 (by omega)
theorem ids_from {w0 w:World} {tb:Nat} {x:TpG} (hi:TpI w0 w tb x) (c:Nat):x.t.ids.drop (lowN x.t.ids (c:Int))=(nxt (recsI (1024*x.i0) x.l) c).map fun r=>(r.id:Int):=by
 have e:=hi.tn.ids
 rw [e]
 exact nxt_ids hi.la' c
theorem ids_len {w0 w:World} {tb:Nat} {x:TpG} (hi:TpI w0 w tb x) (hl:x.l.length≤1000000):x.t.ids.length≤1000000:=by
 have e2:x.t.ids.length=(notesI (1024*x.i0) x.l).length:=by
  have:=congrArg List.length hi.tn.ids
  rw [List.length_map] at this
  exact this
 have:=notesI_len (1024*x.i0) x.l
 omega
def idL (l:List (MsgM×List UInt8)) (bs:List UInt8):Nat:=(bytesI l).length+(tfill (roomT 0 (bytesI l)) bs.length).length
theorem ref_ok {M:MsgM} {bs:List UInt8} (hp:putO M=some bs):0≤M.ref∧M.ref≤1099511627776:=by
 unfold putO at hp
 have hr:rightB M=true:=by
  cases h:rightB M with
  | true=>rfl
  | false=>rw [h] at hp;simp at hp
 unfold rightB at hr
 rw [Bool.and_eq_true] at hr
 exact allIn_iff.1 hr.1 M.ref (by simp [MsgM.nums])
theorem nums_ok {M:MsgM} {bs:List UInt8} (hp:putO M=some bs):∀ x∈M.nums,0≤x∧x≤1099511627776:=by
 unfold putO at hp
 have hr:rightB M=true:=by
  cases h:rightB M with
  | true=>rfl
  | false=>rw [h] at hp;simp at hp
 unfold rightB at hr
 rw [Bool.and_eq_true] at hr
 exact allIn_iff.1 hr.1
def dlvM (M:MsgM) (id now:Int):MsgM:={ M with kind:=3,ref:=id,born:=now }
theorem dlv_put {M:MsgM} {bs:List UInt8} (hk:M.kind=2) (hp:putO M=some bs) {id now:Int} (h1:0≤id∧id≤1099511627776) (h2:0≤now∧now≤1099511627776):putO (dlvM M id now)=some (recB (dlvM M id now)):=by
 have hn:=nums_ok hp
 unfold putO at hp
 have hr:rightB M=true:=by
  cases h:rightB M with
  | true=>rfl
  | false=>rw [h] at hp;simp at hp
 unfold rightB at hr
 rw [Bool.and_eq_true] at hr
 have hr2:=hr.2
 unfold restB at hr2
 rw [if_neg (by omega),if_neg (by omega),if_pos (.inl hk)] at hr2
 have e:rightB (dlvM M id now)=true:=by
  unfold rightB
  rw [Bool.and_eq_true]
  refine ⟨allIn_iff.2 fun x hx=>?_,?_⟩
  ·have hx:x∈[3,M.queue,M.due,M.retry,id,now]:=hx
   simp only [List.mem_cons,List.not_mem_nil,or_false] at hx
   rcases hx with e|e|e|e|e|e
   ·omega
   ·rw [e];exact hn _ (by simp [MsgM.nums])
   ·rw [e];exact hn _ (by simp [MsgM.nums])
   ·rw [e];exact hn _ (by simp [MsgM.nums])
   ·rw [e];exact h1
   ·rw [e];exact h2
  ·unfold restB
   rw [if_neg (by show ¬ (3:Int)=0;decide),if_neg (by show ¬ (3:Int)=1;decide),if_pos (.inr rfl)]
   exact hr2
 unfold putO
 rw [if_pos e,if_pos (by show (3:Int)≠0;decide)]
def idsL (ws:WL):List Int:=ws.map fun p=>(p.2:Int)
theorem note_dlv {M:PM} {id at_ due:Int} (h0:0≤at_) (hs:stP M id=1):(noteP M at_ 3 due id).2=putP M id (2,0):=by
 unfold noteP
 rw [if_neg (by omega)]
 have e:ofP at_ 3 id=id:=by unfold ofP;rw [if_neg (by decide)]
 rw [e]
 have h1:((getK M id).getD (0,0)).1=1:=hs
 have hb:behP ((getK M id).getD (0,0)) 3 due=(2,0):=by unfold behP;rw [if_neg (fun x=>absurd x.2 (by decide)),if_pos ⟨h1,rfl⟩]
 rw [hb,if_neg]
 intro hx
 rw [←hx] at h1
 exact absurd h1 (by decide)
theorem dnew_ok (w:World) (tb sb lb:Nat) :
 Calls Tryz.prog 23 #[.pointer (some ⟨tb,0,none⟩),.pointer (some ⟨sb,0,none⟩),.pointer (some ⟨lb,0,none⟩)] w fun e w'=>e = .returned (.tuple #[.pointer (some ⟨w.heap.size,0,none⟩),.int .i64 0])∧w'=w.alloc (.cells (enqC ⟨0,tb,sb,0,lb⟩ (.slice none 0 0)) 85):=by
 unfold enqC
 go_enter Tryz.func23,Tryz.ntmps23
 go_wp2_with fail
 go_ret2
 exact ⟨rfl,rfl⟩
theorem dmade_any {w0 w:World} {B:EnB} {z:EnG} (h:EnI w0 w B z):Calls Tryz.prog 35 #[.pointer (some ⟨B.eb,0,none⟩)] w fun e w'=>e = .returned (.bool true)∧w=w':=by
 obtain ⟨c0,c1,c2,_,_⟩:=h.cells
 clear h
 go_enter Tryz.func35,Tryz.ntmps35
 go_wp2_with fail
 go_ret
 exact ⟨rfl,rfl⟩
theorem dadd_any {w0 w:World} {B:EnB} {z:EnG} (h:EnI w0 w B z) (ys:List Int) (a:Option Addr) (n cap:Nat) (hu:Ints w (.slice a n cap) ys) (hl:z.L.length+ys.length≤1000000) :
 Calls Tryz.prog 12 #[.pointer (some ⟨B.eb,0,none⟩),.slice a n cap] w fun e w'=>e = .returned (.tuple #[])∧∃ v',EnI w0 w' B { z with v:=v',L:=z.L ++ ys }∧QTo w (z.own B) w' (EnG.own B { z with v:=v',L:=z.L ++ ys }):=by
 obtain ⟨v',w5,hrun,k1,k2,hI5,hq5,_,_⟩:=h.apps ys hu hl 52
 obtain ⟨_,_,_,c3,fz⟩:=h.cells
 have HM:=Lib.hid (dmade_any h)
 have g4:w5.frozen? ⟨B.eb,3,none⟩=false:=k2 3
 have k4:w5.cell? ⟨B.eb,3,none⟩=some z.v:=(k1 3).trans c3
 obtain ⟨zv,hzv⟩:∃ x:Value,x=z.v:=⟨_,rfl⟩
 obtain ⟨va,vc,hv'⟩:∃ va vc,v' = .slice va (z.L ++ ys).length vc:=hI5.row.slice
 generalize (z.L ++ ys).length=vn at hv'
 subst hv'
 have HE:Hid (∃ v',EnI w0 (w5.setCell ⟨B.eb,3,none⟩ (.slice va vn vc)) B { z with v:=v',L:=z.L ++ ys }∧QTo w (z.own B) (w5.setCell ⟨B.eb,3,none⟩ (.slice va vn vc)) (EnG.own B { z with v:=v',L:=z.L ++ ys })):=Lib.hid ⟨_,hI5,hq5⟩
 rw [←hzv] at hrun k4 c3
 have HRUN:=Lib.hid hrun
 obtain ⟨eb,tb,sb,mb,lb⟩:=B
 dsimp only at *
 clear h hu hl hrun k1 k2 hI5 hq5 hzv fz
 go_enter Tryz.func12,Tryz.ntmps12
 go_wp2_with fail
 refine HM.out.mono ?_
 rintro e w1 ⟨rfl,rfl⟩
 go_wp2_with (at_builtin;refine Lib.wpList_append_run _ rfl _ _ _ _ rfl _ _ rfl rfl _ _ HRUN.out ?_)
 go_end0
 exact ⟨rfl,HE.out⟩
theorem dbusy_any {w0 w:World} {B:EnB} {z:EnG} (h:EnI w0 w B z) (now:Int):Calls Tryz.prog 20 #[.pointer (some ⟨B.eb,0,none⟩),.int .i64 now] w fun e w'=>e = .returned (.bool (!z.L.isEmpty || decide ((z.hd:Int)<now)))∧w=w':=by
 obtain ⟨_,_,c2,c3,_⟩:=h.cells
 obtain ⟨va,vc,hv⟩:=h.row.slice
 rw [hv] at c3
 have HM:=Lib.hid (dmade_any h)
 have HH:=Lib.hid h.lg.hand
 obtain ⟨hv,hhv⟩:∃ x:Int,x=(z.hd:Int):=⟨_,rfl⟩
 rw [←hhv] at HH ⊢
 cases hL:z.L with
 | nil=>
  rw [hL] at c3
  clear h hL
  dsimp only [List.length_nil] at c3
  go_enter Tryz.func20,Tryz.ntmps20
  go_wp2_with fail
  refine HM.out.mono ?_
  rintro e w1 ⟨rfl,rfl⟩
  go_wp2_with fail
  refine HH.out.mono ?_
  rintro e w1 ⟨rfl,rfl⟩
  go_wp2_with fail
  go_ret
  exact ⟨by simp [hhv],rfl⟩
 | cons a l=>
  rw [hL] at c3
  have hpos:(0:Int)<((a :: l).length:Int):=by simp
  obtain ⟨N,hN⟩:∃ N,N=(a :: l).length:=⟨_,rfl⟩
  rw [←hN] at c3 hpos
  clear h hL hN
  go_enter Tryz.func20,Tryz.ntmps20
  go_wp2_with fail
  refine HM.out.mono ?_
  rintro e w1 ⟨rfl,rfl⟩
  go_wp2_with fail
  go_ret
  exact ⟨by simp,rfl⟩
structure EnA (w0 w:World) (B:EnB) (C:Nat) (z:EnG) (k p j:Nat):Prop where
 i:EnI w0 w B z
 i0:z.x.i0=0
 rl:(RS z).length≤k
 ll:z.x.l.length≤2*k
 xn:z.x.n≤4*k
 ok:(bytesI z.x.l).length % 1024≤1021
 len:(bytesI z.x.l).length≤1351*k
 xcap:z.x.st.cap=C
 xsz:z.x.st.size≤(bytesI z.x.l).length
 cap:z.cap=4194304
 n:z.n≤3+2*p+2*j
 P:z.P≤31*p+100*j
 wl:z.ws.length+z.L.length≤p
 ml:z.M.length≤k
section
variable {w0 w w':World} {B:EnB} {C:Nat} {z z':EnG} {k p j:Nat}
theorem EnA.new (h:EnA w0 w B C z k p j) (hc:Chg (fun _=>False) w w'):EnA w0 w' B C z k p j:={ h with i:=h.i.new hc }
theorem EnA.away {S:Nat→Prop} (h:EnA w0 w B C z k p j) (hc:Chg S w w') (hS:∀ q,z.own B q→¬ S q) (hl:∀ q,S q→w0.heap.size≤q):EnA w0 w' B C z k p j:={ h with i:=h.i.away hc hS hl }
theorem EnA.chg (h:EnA w0 w B C z k p j):Chg (fun _=>False) w0 w:=h.i.tp.tg.row.chg
theorem EnA.recs (h:EnA w0 w B C z k p j):∀ r∈RS z,3≤r.len∧r.len≤327∧r.id+r.len≤(bytesI z.x.l).length∧r.m.kind≠0∧0≤r.m.due∧r.m.due≤1099511627776:=fun r hr=>by
 obtain ⟨a,bs,hp,b2,b3,b4,_,b1⟩:=recsI_put h.i.tp.la' r hr
 have:=due_ok hp
 rw [h.i0] at b1
 exact ⟨b3,b4,by omega,a,this⟩
theorem EnA.on (h:EnA w0 w B C z k p j) (hk:k≤200) {r:RcM} (hr:r∈RS z):OnTape z.x r:=⟨hr,by have:=h.len;have:=h.i0;omega⟩
end
def ERefTo (w:World) (er:Int) (e:Ending) (w':World):Prop:=e = .returned (.tuple #[.int .i64 0,.int .i64 er])∧Below w.heap.size w w'
def EPutTo (w0 w:World) (B:EnB) (C:Nat) (z:EnG) (k p j:Nat) (M:MsgM) (bs:List UInt8) (e:Ending) (w':World):Prop:=e = .returned (.tuple #[.int .i64 ((idL z.x.l bs:Nat):Int),.int .i64 0])∧∃ x',EnA w0 w' B C { z with x:=x' } (k+1) p j∧QTo w (z.own B) w' (EnG.own B { z with x:=x' }) ∧
 RS { z with x:=x' }=RS z ++ [⟨idL z.x.l bs,bs.length,M⟩]∧idL z.x.l bs+bs.length=(bytesI x'.l).length
theorem EnA.append7 {w0 w:World} {B:EnB} {C:Nat} {z:EnG} {k p j:Nat} (h:EnA w0 w B C z k p j) (hk:k≤200) (M:MsgM) (vk:Value) (hks:Strs w 0 vk M.keys) (hcap:CapOk vk) (hs:Sound M) :
 (∃ er:Int,er≠0∧(er=1∧(M.kind=0∨putO M=none)∨er=7∧C<1351*k+1351)∧Calls Tryz.prog 33 #[.pointer (some ⟨B.tb,0,none⟩),M.val vk] w (ERefTo w er)) ∨
 (∃ bs,M.kind≠0∧putO M=some bs∧(∀ r∈RS z,r.id<idL z.x.l bs)∧(bytesI z.x.l).length≤idL z.x.l bs∧idL z.x.l bs≤1000000∧Calls Tryz.prog 33 #[.pointer (some ⟨B.tb,0,none⟩),M.val vk] w (EPutTo w0 w B C z k p j M bs)):=by
 have h1:=h.ll
 have h2:=h.xn
 have h3:=h.len
 have h4:=h.i0
 have hxs:=h.xsz
 have hxc:=h.xcap
 have hnl:=notesI_len (1024*z.x.i0) z.x.l
 have hml:=h.i.tp.tn.ml
 have hil:z.x.t.ids.length=(notesI (1024*z.x.i0) z.x.l).length:=by
  have:=congrArg List.length h.i.tp.tn.ids
  rw [List.length_map] at this
  exact this
 rcases app_seven h.i.tp.tg h.i.tp.rc h.i.tp.hd M vk hks hcap hs h.ok (by omega) (by omega) (by omega) (by omega) with ⟨er,q1,q2,hA⟩|⟨F,S,q1,q2,q3,q4,⟨bs,p1,p2,p3,p4⟩,hA⟩
 ·refine .inl ⟨er,q1,?_,hA.mono fun e w' ⟨a,b⟩=>⟨a,b⟩⟩
  rcases q2 with a|⟨a,b⟩
  ·exact .inl a
  ·exact .inr ⟨a,by omega⟩
 ·have hFs:F.size=(tfill (roomT z.x.i0 (bytesI z.x.l)) bs.length).length:=by rw [p4,sizeL]
  have hSs:S.size=bs.length:=by rw [p2,sizeL]
  have hid:1024*z.x.i0+(bytesI z.x.l).length+F.size=idL z.x.l bs:=by
   unfold idL
   rw [hFs,h4]
   omega
  refine .inr ⟨bs,p3,p1,fun r hr=>(by have:=h.recs r hr;rw [←hid,h4];omega),by rw [←hid,h4];omega,by rw [←hid,h4];omega,hA.mono ?_⟩
  rintro e w' ⟨rfl,ha⟩
  obtain ⟨t',g',m',st',j',a1,a2,a3,a4,a5,a6,a7,a8,a9,a10⟩:=TapeI.app h.i.tp h.ok p3 p1 p4 p2 ha
  have hbl:(bytesI (z.x.l ++ itemsA (roomT z.x.i0 (bytesI z.x.l)) M bs)).length=(bytesI z.x.l).length+F.size+S.size:=by
   rw [bytesI_app,itemsA_bytes,List.length_append,List.length_append,hFs,hSs]
   omega
  obtain ⟨d1,d2⟩:=h.i.tape (x':=⟨t',g',st',m',z.x.n+4,z.x.i0,j',z.x.l ++ itemsA (roomT z.x.i0 (bytesI z.x.l)) M bs⟩) a1 ⟨a6,fun q hq=>by
   rcases hq with b|b|b
   ·exact (a10 q b).imp .inl id
   ·exact .inl (.inr (.inl (b.trans a8)))
   ·exact (a7 q b).imp (fun c=>.inr (.inr c)) id⟩
  have hrs:recsI (1024*z.x.i0) (z.x.l ++ itemsA (roomT z.x.i0 (bytesI z.x.l)) M bs)=RS z ++ [⟨idL z.x.l bs,bs.length,M⟩]:=by
   rw [recsI_app,itemsA_recs _ _ _ _ p3,←hFs,hid]
   rfl
  have hil2:(itemsA (roomT z.x.i0 (bytesI z.x.l)) M bs).length≤2:=by unfold itemsA;split<;>simp
  have hrl:=h.rl
  refine ⟨by rw [hid],_,⟨d1,h4,?_,?_,?_,?_,?_,a5.trans hxc,?_,h.cap,h.n,h.P,h.wl,Nat.le_trans h.ml (Nat.le_succ _)⟩,d2,hrs,?_⟩
  ·show (recsI (1024*z.x.i0) (z.x.l ++ itemsA (roomT z.x.i0 (bytesI z.x.l)) M bs)).length≤_
   rw [hrs,List.length_append]
   simp only [List.length_cons,List.length_nil]
   omega
  ·show (z.x.l ++ itemsA (roomT z.x.i0 (bytesI z.x.l)) M bs).length≤_
   rw [List.length_append]
   omega
  ·show z.x.n+4≤_
   omega
  ·show (bytesI (z.x.l ++ itemsA (roomT z.x.i0 (bytesI z.x.l)) M bs)).length % 1024≤1021
   rw [hbl]
   exact q4
  ·show (bytesI (z.x.l ++ itemsA (roomT z.x.i0 (bytesI z.x.l)) M bs)).length≤_
   rw [hbl]
   omega
  ·show st'.size≤(bytesI (z.x.l ++ itemsA (roomT z.x.i0 (bytesI z.x.l)) M bs)).length
   rw [hbl,a4]
   omega
  ·show _=(bytesI (z.x.l ++ itemsA (roomT z.x.i0 (bytesI z.x.l)) M bs)).length
   rw [hbl,←hid,h4,hSs]
   omega
def EAppTo (w0 w:World) (B:EnB) (C:Nat) (z:EnG) (k p j:Nat) (M:MsgM) (e:Ending) (w':World):Prop:=
 (∃ er:Int,er≠0∧(er=1∧(M.kind=0∨putO M=none)∨er=7∧C<1351*k+1351)∧e = .returned (.tuple #[.int .i64 0,.int .i64 er])∧Below w.heap.size w w') ∨
 (∃ bs x',M.kind≠0∧putO M=some bs∧e = .returned (.tuple #[.int .i64 ((idL z.x.l bs:Nat):Int),.int .i64 0])∧EnA w0 w' B C { z with x:=x' } (k+1) p j∧QTo w (z.own B) w' (EnG.own B { z with x:=x' }) ∧
  RS { z with x:=x' }=RS z ++ [⟨idL z.x.l bs,bs.length,M⟩]∧(∀ r∈RS z,r.id<idL z.x.l bs)∧(bytesI z.x.l).length≤idL z.x.l bs∧idL z.x.l bs+bs.length=(bytesI x'.l).length∧idL z.x.l bs≤1000000)
theorem EnA.append {w0 w:World} {B:EnB} {C:Nat} {z:EnG} {k p j:Nat} (h:EnA w0 w B C z k p j) (hk:k≤200) (M:MsgM) (vk:Value) (hks:Strs w 0 vk M.keys) (hcap:CapOk vk) (hs:Sound M) :
 Calls Tryz.prog 33 #[.pointer (some ⟨B.tb,0,none⟩),M.val vk] w (EAppTo w0 w B C z k p j M):=by
 rcases h.append7 hk M vk hks hcap hs with ⟨er,q1,q2,hA⟩|⟨bs,p1,p2,p3,p4,p5,hA⟩
 ·exact hA.mono fun e w' ⟨a,b⟩=>.inl ⟨er,q1,q2,a,b⟩
 ·exact hA.mono fun e w' ⟨a,x',b1,b2,b3,b4⟩=>.inr ⟨bs,x',p1,p2,a,b1,b2,b3,p3,p4,b4,p5⟩
theorem EnA.note {w0 w:World} {B:EnB} {C:Nat} {z:EnG} {k p j:Nat} (h:EnA w0 w B C z k p j) (hk:k≤200) (id:Int) (M:MsgM) (vk:Value) (hv:vk.oneCell'=true) (hid:(Lit.int .i64 id).wf=true) (href:(Lit.int .i64 M.ref).wf=true) (hl:(noteP z.M id M.kind M.due M.ref).2.length≤k) :
 Calls Tryz.prog 15 #[.pointer (some ⟨B.sb,0,none⟩),.int .i64 id,M.val vk] w fun e w'=>e = .returned (.bool (noteP z.M id M.kind M.due M.ref).1)∧EnA w0 w' B C { z with M:=(noteP z.M id M.kind M.due M.ref).2 } k p j∧QTo w (z.own B) w' (EnG.own B { z with M:=(noteP z.M id M.kind M.due M.ref).2 }):=by
 have hml:=h.ml
 refine (pnote_any h.i.pe id ⟨M.kind,M.queue,M.due,M.retry,M.ref,M.born,M.topic,M.tag,M.body,vk⟩ hv hid href (by unfold maxLen;omega)).mono ?_
 rintro e w' ⟨rfl,hp,hc⟩
 obtain ⟨a,b⟩:=h.i.pend hp hc
 exact ⟨rfl,{ h with i:=a,ml:=hl },b⟩
theorem EnA.put {w0 w:World} {B:EnB} {C:Nat} {z:EnG} {k p j:Nat} (h:EnA w0 w B C z k p j) (hp:p≤100) (hj:j≤6000) (due rc:Nat) (hdue:due≤1099511627776) (hrc:rc≤1099511627776) (hlt:z.hd<due) :
 Calls Tryz.prog 13 #[.pointer (some ⟨B.lb,0,none⟩),.int .i64 (due:Int),.int .i64 (rc:Int)] w fun e w'=>e = .returned (.int .i64 0)∧∃ z',EnA w0 w' B C z' k (p+1) j∧QTo w (z.own B) w' (z'.own B)∧z'.x=z.x∧z'.M=z.M∧z'.hd=z.hd∧z'.ws=z.ws ++ [(due,rc)]∧z'.L=z.L:=by
 have h1:=h.n
 have h2:=h.P
 have h3:=h.cap
 have h4:=h.wl
 refine (h.i.lg.put (by omega) due rc hdue hrc hlt (by rw [h3];omega)).mono ?_
 rintro e w' ⟨rfl,F',hT,hF⟩
 obtain ⟨a,b⟩:=h.i.log hT hF
 refine ⟨rfl,_,{ i:=a,i0:=h.i0,rl:=h.rl,ll:=h.ll,xn:=h.xn,ok:=h.ok,len:=h.len,xcap:=h.xcap,xsz:=h.xsz,cap:=h.cap,n:=?_,P:=?_,wl:=?_,ml:=h.ml },b,rfl,rfl,rfl,rfl,rfl⟩
 ·show z.n+2≤_
  omega
 ·show z.P+31≤_
  omega
 ·show (z.ws ++ [(due,rc)]).length+z.L.length≤_
  rw [List.length_append]
  simp only [List.length_cons,List.length_nil]
  omega
theorem EnA.adds {w0 w:World} {B:EnB} {C:Nat} {z:EnG} {k p j:Nat} (h:EnA w0 w B C z k p j) (hp:p≤100) (ys:List Int) (a:Option Addr) (n cap:Nat) (hu:Ints w (.slice a n cap) ys) (hl:ys.length≤100) :
 Calls Tryz.prog 12 #[.pointer (some ⟨B.eb,0,none⟩),.slice a n cap] w fun e w'=>e = .returned (.tuple #[])∧∃ v',EnA w0 w' B C { z with v:=v',L:=z.L ++ ys } k (p+ys.length) j∧QTo w (z.own B) w' (EnG.own B { z with v:=v',L:=z.L ++ ys }):=by
 have h4:=h.wl
 refine (dadd_any h.i ys a n cap hu (by omega)).mono ?_
 rintro e w' ⟨rfl,v',a1,a2⟩
 refine ⟨rfl,v',{ i:=a1,i0:=h.i0,rl:=h.rl,ll:=h.ll,xn:=h.xn,ok:=h.ok,len:=h.len,xcap:=h.xcap,xsz:=h.xsz,cap:=h.cap,n:=?_,P:=?_,wl:=?_,ml:=h.ml },a2⟩
 ·have:=h.n
  show z.n≤_
  omega
 ·have:=h.P
  show z.P≤_
  omega
 ·show z.ws.length+(z.L ++ ys).length≤_
  rw [List.length_append]
  omega
theorem EnA.busy {w0 w:World} {B:EnB} {C:Nat} {z:EnG} {k p j:Nat} (h:EnA w0 w B C z k p j) (now:Int):Calls Tryz.prog 20 #[.pointer (some ⟨B.eb,0,none⟩),.int .i64 now] w fun e w'=>e = .returned (.bool (!z.L.isEmpty || decide ((z.hd:Int)<now)))∧w=w':=dbusy_any h.i now
theorem put_bd {M:MsgM} {bs:List UInt8} (hk:M.kind≠0) (hp:putO M=some bs):Bd M:=by
 unfold putO at hp
 have hr:rightB M=true:=by
  cases h:rightB M with
  | true=>rfl
  | false=>rw [h] at hp;simp at hp
 exact right_bd hr hk
theorem bd_sound {M:MsgM} (h:Bd M):Sound M:=⟨by have:=h.topic;unfold maxLen;omega,by have:=h.tag;unfold maxLen;omega,by have:=h.body;omega,by have:=h.many;omega,fun t ht=>by have:=h.keys t ht;unfold maxLen;omega⟩
theorem own_cap {w:World} {base:Nat} {e:TypeId} {n k:Nat} {v:Value} {xs:List Value} (h:w.ownsRow base e n v k xs):∃ a c,v = .slice a k c∧k≤c:=by
 rcases h.2 with ⟨rfl,rfl⟩|⟨g,cap,cur,rfl,_,_,hc,_⟩
 ·exact ⟨_,_,rfl,Nat.le_refl _⟩
 ·exact ⟨_,_,rfl,hc⟩
theorem strs_base {w:World} {B B':Nat} {v:Value} {ts:List ByteArray} (h:Strs w B v ts) (hb:B'≤B):Strs w B' v ts:=by
 obtain ⟨a,cap,e,h⟩:=h
 refine ⟨a,cap,e,?_⟩
 rcases h with h|⟨c,o,rfl,hc,h⟩
 ·exact .inl h
 ·exact .inr ⟨c,o,rfl,Nat.le_trans hb hc,h⟩
def DlvTo (M:MsgM) (id now:Int) (w:World) (e:Ending) (w':World):Prop:=∃ a c,e = .returned ((dlvM M id now).val (.slice a M.keys.length c))∧Strs w' w.heap.size (.slice a M.keys.length c) M.keys∧M.keys.length≤c∧Chg (fun _=>False) w w'
theorem box_fill {w:World} {b:Nat} {a0 a1 a2 a3 a4 a5 a6 a7 a8 a9:Value} (h:Box w b #[a0,a1,a2,a3,a4,a5,a6,a7,a8,a9]) (c0 c1 c2 c3 c4 c5 c6 c7 c8 c9:Value):Box (set10 w b c0 c1 c2 c3 c4 c5 c6 c7 c8 c9) b #[c0,c1,c2,c3,c4,c5,c6,c7,c8,c9]:=by
 have h1:=(((((((((h.set 0 c0).set 1 c1).set 2 c2).set 3 c3).set 4 c4).set 5 c5).set 6 c6).set 7 c7).set 8 c8).set 9 c9
 have e:((((((((((#[a0,a1,a2,a3,a4,a5,a6,a7,a8,a9]:Array Value).setIfInBounds 0 c0).setIfInBounds 1 c1).setIfInBounds 2 c2).setIfInBounds 3 c3).setIfInBounds 4 c4).setIfInBounds 5 c5).setIfInBounds 6 c6).setIfInBounds 7 c7).setIfInBounds 8 c8).setIfInBounds 9 c9 = #[c0,c1,c2,c3,c4,c5,c6,c7,c8,c9]:=by
  simp
 rw [e] at h1
 exact h1
theorem chg_set10 (w:World) (b:Nat) (c0 c1 c2 c3 c4 c5 c6 c7 c8 c9:Value):Chg (fun q=>q=b) w (set10 w b c0 c1 c2 c3 c4 c5 c6 c7 c8 c9):=by
 have hs:∀ (W:World) (i:Nat) (v:Value),Chg (fun q=>q=b) W (W.setCell ⟨b,i,none⟩ v):=fun W i v=>Chg.setCell (S:=fun q=>q=b) (p:=⟨b,i,none⟩) (Chg.refl _ _) (fun _=>rfl) _
 unfold set10
 exact (((((((((hs _ 0 c0).trans (hs _ 1 c1) (fun _ _ x=>x)).trans (hs _ 2 c2) (fun _ _ x=>x)).trans (hs _ 3 c3) (fun _ _ x=>x)).trans (hs _ 4 c4) (fun _ _ x=>x)).trans (hs _ 5 c5) (fun _ _ x=>x)).trans (hs _ 6 c6) (fun _ _ x=>x)).trans (hs _ 7 c7) (fun _ _ x=>x)).trans (hs _ 8 c8) (fun _ _ x=>x)).trans (hs _ 9 c9) (fun _ _ x=>x)
set_option maxHeartbeats 4000000 in
set_option maxRecDepth 100000 in
theorem ddlv_any (M:MsgM) (vk:Value) (id now:Int) (w:World) (hk:Strs w 0 vk M.keys) (hn:M.keys.length≤10000):Calls Tryz.prog 24 #[.int .i64 id,M.val vk,.int .i64 now] w (DlvTo M id now w):=by
 obtain ⟨m1,mq,m3,m4,m5,m6,m7,m8,m9,m10⟩:=M
 obtain ⟨W1,hW1⟩:∃ W,W=(w.alloc (.cells #[.int .i64 m1,.int .i64 mq,.int .i64 m3,.int .i64 m4,.int .i64 m5,.int .i64 m6,.string m7,.string m8,.string m9,vk] 36)).alloc (.cells #[.int .i64 0,.int .i64 0,.int .i64 0,.int .i64 0,.int .i64 0,.int .i64 0,.string ⟨#[]⟩,.string ⟨#[]⟩,.string ⟨#[]⟩,.slice none 0 0] 36):=⟨_,rfl⟩
 have hc1:Chg (fun _=>False) w W1:=hW1▸(Chg.alloc _ (Chg.refl _ _) _).trans (Chg.alloc _ (Chg.refl _ _) _) (fun _ _ x=>x)
 have hbm:Box W1 w.heap.size #[.int .i64 m1,.int .i64 mq,.int .i64 m3,.int .i64 m4,.int .i64 m5,.int .i64 m6,.string m7,.string m8,.string m9,vk]:=by rw [hW1];exact (Box.new w _).alloc _
 have hbz:Box W1 (w.heap.size+1) zc:=by
  have:=Box.new (w.alloc (.cells #[.int .i64 m1,.int .i64 mq,.int .i64 m3,.int .i64 m4,.int .i64 m5,.int .i64 m6,.string m7,.string m8,.string m9,vk] 36)) zc
  rw [World.size_alloc] at this
  rw [hW1]
  exact this
 have HCP:=Lib.hid (copy_any ⟨m1,mq,m3,m4,m5,m6,m7,m8,m9,m10⟩ vk W1 (hk.below (chg_below hc1) (Nat.le_refl _)) hn)
 unfold CopyTo MsgM.val MsgM.cells at HCP
 unfold MsgM.val MsgM.cells
 dsimp only at HCP ⊢
 have HW1:=Lib.hid hW1
 have HC1:=Lib.hid hc1
 have HBM:=Lib.hid hbm
 have HBZ:=Lib.hid hbz
 have kc:=hbm.cell
 clear hk hn hW1 hc1 hbm hbz
 go_enter Tryz.func24,Tryz.ntmps24
 go_upto_region 1 with fail
 rw [←HW1.out]
 go_wp2_with fail
 refine HCP.out.mono ?_
 rintro e w2 ⟨vk2,rfl,hown,hb2⟩
 obtain ⟨a2,c2,rfl,hcc⟩:=own_cap hown
 have hst:Strs w2 (W1.heap.size+2) (.slice a2 m10.length c2) m10:=Oc.strs_own hown
 obtain ⟨nk,hnk⟩:∃ n,n=m10.length:=⟨_,rfl⟩
 rw [←hnk] at hcc hst ⊢
 have hbm2:=HBM.out.below hb2 HBM.out.lt
 have hbz2:=HBZ.out.below hb2 HBZ.out.lt
 have hc2:Chg (fun _=>False) w w2:=HC1.out.trans (below_chg hb2) (fun _ _ x=>x)
 have hwl:w.heap.size+1<W1.heap.size:=HBZ.out.lt
 obtain ⟨W2,hW2⟩:∃ W,W=set10 w2 w.heap.size (.int .i64 m1) (.int .i64 mq) (.int .i64 m3) (.int .i64 m4) (.int .i64 m5) (.int .i64 m6) (.string m7) (.string m8) (.string m9) (.slice a2 nk c2):=⟨_,rfl⟩
 have hbm3:Box W2 w.heap.size #[.int .i64 m1,.int .i64 mq,.int .i64 m3,.int .i64 m4,.int .i64 m5,.int .i64 m6,.string m7,.string m8,.string m9,.slice a2 nk c2]:=hW2▸box_fill hbm2 _ _ _ _ _ _ _ _ _ _
 have hc3:Chg (fun q=>q=w.heap.size) w2 W2:=hW2▸chg_set10 _ _ _ _ _ _ _ _ _ _ _ _
 have hbz3:Box W2 (w.heap.size+1) zc:=hc3.heap hbz2 (by omega)
 have hst3:Strs W2 (W1.heap.size+2) (.slice a2 nk c2) m10:=by rw [hW2];exact strs_set10 hst (by omega) _ _ _ _ _ _ _ _ _ _
 have e3:=hbm3.cell
 have f3:=hbm3.free
 have kc2:=hbm2.cell
 have kf2:=hbm2.free
 have ez:=hbz3.cell
 have fz:=hbz3.free
 simp only [zc] at ez
 unfold set10 at hW2
 have HW2:=Lib.hid hW2
 have HC2:=Lib.hid hc2
 have HC3:=Lib.hid hc3
 have HB3:=Lib.hid hbm3
 have HZ3:=Lib.hid hbz3
 have HST:=Lib.hid hst3
 have HCC:=Lib.hid hcc
 have HNK:=Lib.hid hnk
 have HWL:=Lib.hid hwl
 clear hown hb2 hst hnk hbm2 hbz2 hc2 hW2 hbm3 hc3 hbz3 hst3 hcc hwl kc
 go_upto_region 2 with fail
 rw [←HW2.out]
 clear kc2 kf2
 go_wp2_with fail
 obtain ⟨W3,hW3⟩:∃ W,W=((W2.setCell ⟨w.heap.size,0,none⟩ (.int .i64 3)).setCell ⟨w.heap.size,4,none⟩ (.int .i64 id)).setCell ⟨w.heap.size,5,none⟩ (.int .i64 now):=⟨_,rfl⟩
 rw [←hW3]
 obtain ⟨W4,hW4⟩:∃ W,W=set10 W3 (w.heap.size+1) (.int .i64 3) (.int .i64 mq) (.int .i64 m3) (.int .i64 m4) (.int .i64 id) (.int .i64 now) (.string m7) (.string m8) (.string m9) (.slice a2 nk c2):=⟨_,rfl⟩
 have hs:∀ (W:World) (i:Nat) (v:Value),Chg (fun q=>q=w.heap.size) W (W.setCell ⟨w.heap.size,i,none⟩ v):=fun W i v=>Chg.setCell (S:=fun q=>q=w.heap.size) (p:=⟨w.heap.size,i,none⟩) (Chg.refl _ _) (fun _=>rfl) _
 have hc33:Chg (fun q=>q=w.heap.size) W2 W3:=hW3▸((hs W2 0 _).trans (hs _ 4 _) (fun _ _ x=>x)).trans (hs _ 5 _) (fun _ _ x=>x)
 have hbz4:Box W3 (w.heap.size+1) zc:=hc33.heap HZ3.out (by omega)
 have hbx:Box W4 (w.heap.size+1) #[.int .i64 3,.int .i64 mq,.int .i64 m3,.int .i64 m4,.int .i64 id,.int .i64 now,.string m7,.string m8,.string m9,.slice a2 nk c2]:=hW4▸box_set10 hbz4 _ _ _ _ _ _ _ _ _ _
 have hc4:Chg (fun q=>q=w.heap.size+1) W3 W4:=hW4▸chg_set10 _ _ _ _ _ _ _ _ _ _ _ _
 have hst4:Strs W4 (W1.heap.size+2) (.slice a2 nk c2) m10:=by
  rw [hW4,hW3]
  refine strs_set10 ?_ (by have:=HWL.out;omega) _ _ _ _ _ _ _ _ _ _
  exact strs_set (strs_set (strs_set HST.out (by have:=HWL.out;omega) _ _) (by have:=HWL.out;omega) _ _) (by have:=HWL.out;omega) _ _
 have hcw:Chg (fun _=>False) w W4:=(((HC2.out.trans HC3.out (fun i hi (e:i=w.heap.size)=>by omega)).trans hc33 (fun i hi (e:i=w.heap.size)=>by omega)).trans hc4 (fun i hi (e:i=w.heap.size+1)=>by omega))
 unfold set10 at hW4
 rw [←hW4]
 have hpm:=Box.cell hbx
 refine bodyPost_ret (v:=.agg #[.int .i64 3,.int .i64 mq,.int .i64 m3,.int .i64 m4,.int .i64 id,.int .i64 now,.string m7,.string m8,.string m9,.slice a2 nk c2]) (by simp [results,Tryz.results24,go_sem,hpm]) rfl ⟨a2,c2,?_,?_,?_,hcw⟩
 ·rw [HNK.out];rfl
 ·show Strs W4 w.heap.size (.slice a2 m10.length c2) m10
  rw [←HNK.out]
  exact strs_base hst4 (by have:=HWL.out;omega)
 ·show m10.length≤c2
  rw [←HNK.out]
  exact HCC.out
attribute [local go_sem] fr_opt
def zk (z:EnG) (v:Value) (L:List Int):EnG:={ z with v:=v,L:=L }
def HrX (w0 W w:World) (B:EnB) (z:EnG) (x:Int) (v:Value):Prop:=EnI w0 w B (zk z v (z.L ++ [x]))∧QTo W (z.own B) w ((zk z v (z.L ++ [x])).own B)∧Chg (fun q=>q=B.eb∨z.v.ownBlock=some q) W w∧(∀ q,v.ownBlock=some q→z.v.ownBlock=some q∨W.heap.size≤q)∧∃ a n c,v = .slice a n c
def HrG (w0 W w:World) (B:EnB) (z:EnG) (x:Int) (p:Nat) (u34 u35:Value):Prop:=match p with
 | 0=>EnI w0 w B z∧Chg (fun _=>False) W w
 | 1=>EnI w0 w B z∧Chg (fun _=>False) W w∧∃ q,u34 = .slice (some ⟨q,0,none⟩) 1 1∧w.cell? ⟨q,0,none⟩=some (.int .i64 x)
 | 2=>∃ a n c,u35 = .slice a n c∧HrX w0 W (w.setCell ⟨B.eb,3,none⟩ u35) B z x u35∧w.frozen? ⟨B.eb,3,none⟩=false∧∃ ov,w.cell? ⟨B.eb,3,none⟩=some ov
 | _+3=>HrX w0 W w B z x u35
variable {w0 W w:World} {B:EnB} {z:EnG} {x:Int} {p:Nat} {u34 u35:Value}
theorem HrG.cell0 (hp:p≤1) (h:HrG w0 W w B z x p u34 u35):w.cell? ⟨B.eb,3,none⟩=some z.v:=by
 match p,hp,h with
 | 0,_,h=>exact (show EnI w0 w B z from h.1).cells.2.2.2.1
 | 1,_,h=>exact (show EnI w0 w B z from h.1).cells.2.2.2.1
theorem HrG.made (h:HrG w0 W w B z x 0 u34 u35):HrG w0 W (w.alloc (.cells #[.int .i64 x] 3)) B z x 1 (.slice (some ⟨w.heap.size,0,none⟩) 1 1) u35:=by
 obtain ⟨h1,h3⟩:=h
 have hc:Chg (fun _=>False) w (w.alloc (.cells #[.int .i64 x] 3)):=Chg.alloc _ (Chg.refl _ _) _
 exact ⟨EnI.new h1 hc,Chg.trans h3 hc (fun _ _ x=>x),_,rfl,by rw [Lib.cell_of_heap (heap_alloc_new _ _)];rfl⟩
theorem HrG.app (hl:z.L.length+1≤1000000) (h:HrG w0 W w B z x 1 u34 u35) (ty:TypeId) :
 ∃ q v' w',u34 = .slice (some ⟨q,0,none⟩) 1 1∧(Builtin.append_ #[52,52] ty #[z.v,.slice (some ⟨q,0,none⟩) 1 1]).run Tryz.prog w = .ok v' w'∧HrG w0 W w' B z x 2 u34 v':=by
 obtain ⟨h1,h3,q,hq,h2⟩:=h
 have h1:EnI w0 w B z:=h1
 have h3:Chg (fun _=>False) W w:=h3
 have hu:Ints w (.slice (some ⟨q,0,none⟩) 1 1) [x]:=by
  refine ⟨_,1,rfl,.inr ⟨q,0,rfl,fun i hi=>?_⟩⟩
  have:i=0:=by simp at hi;omega
  subst this
  exact h2
 obtain ⟨v',w',r1,r2,r3,r4,r5,r6,r7⟩:=h1.apps [x] hu hl ty
 obtain ⟨a,c,hv⟩:=r4.row.slice
 have hsz:=h3.size
 refine ⟨q,v',w',hq,r1,a,_,c,hv,⟨r4,(QTo.of_new h3).trans r5,(h3.wide (fun _ _ e=>e.elim)).trans r6 (fun _ _ x=>x),fun q hq=>?_,a,_,c,hv⟩,r3 3,z.v,(r2 3).trans h1.cells.2.2.2.1⟩
 rcases r7 q hq with e|e
 ·exact .inl e
 ·exact .inr (by omega)
structure HearE (z z':EnG):Prop where
 x:z'.x=z.x
 M:z'.M=z.M
 cap:z'.cap=z.cap
 n:z'.n=z.n+2
 hd:z'.hd=z.hd+1
 P:z'.P=z.P+z.ws.length
 ws:z'.ws=restL z.ws (z.hd+1)
 L:z'.L=z.L ++ idsL (comeL z.ws (z.hd+1))
theorem cells4m (w:World) (a b c d:Value) (i:Nat) (hi:i<4):(w.alloc (.cells #[a,b,c,d] 89)).cell? ⟨w.heap.size,i,none⟩=(#[a,b,c,d]:Array Value)[i]?:=by
 rw [Lib.cell_of_heap (heap_alloc_new _ _)]
set_option maxHeartbeats 4000000 in
set_option maxRecDepth 100000 in
theorem dhear_on {w0 w:World} {B:EnB} {z:EnG} (h:EnI w0 w B z) (hn:z.n≤899000) (now:Int) (h1:(z.hd:Int)<now) (h2:now≤4611686018427387904) (hr:96+20*((z.P+z.ws.length) / 16)≤z.cap) (hl:z.L.length+z.ws.length≤1000) :
 Calls Tryz.prog 43 #[.pointer (some ⟨B.eb,0,none⟩),.int .i64 now] w fun e w'=>e = .returned (.tuple #[.bool true,.int .i64 0])∧∃ z',EnI w0 w' B z'∧QTo w (z.own B) w' (z'.own B)∧HearE z z':=by
 obtain ⟨c0,c1,c2,c3,fz⟩:=h.cells
 have HN:=Lib.hid (h.lg.next hn now h1 h2 hr)
 have HH:=Lib.hid h
 have HL:=Lib.hid hl
 obtain ⟨eb,tb,sb,mb,lb⟩:=B
 dsimp only at *
 clear h hn h1 h2 hr hl c0 c1 c3 fz
 go_enter Tryz.func43,Tryz.ntmps43
 go_wp2_with fail
 refine HN.out.mono ?_
 rintro e w1 ⟨vm,F1,l,rfl,hT1,hF1,htold,hov⟩
 obtain ⟨hi1,hq1⟩:=HH.out.log hT1 hF1
 obtain ⟨z1,hz1⟩:∃ z1:EnG,z1 = { z with F:=F1,n:=z.n+2,hd:=z.hd+1,P:=z.P+z.ws.length,ws:=restL z.ws (z.hd+1)}:=⟨_,rfl⟩
 rw [←hz1] at hi1 hq1
 obtain ⟨cs,hcs⟩:∃ cs,cs=comeL z.ws (z.hd+1):=⟨_,rfl⟩
 obtain ⟨ma,mc,hvm⟩:=htold.row.len layM
 have hlen:l.length=cs.length:=by rw [hcs];exact htold.len
 rw [hlen] at hvm
 subst hvm
 obtain ⟨cn,hcn⟩:∃ cn,cn=cs.length:=⟨_,rfl⟩
 rw [←hcn] at htold hov ⊢
 have hcl:cn≤z.ws.length:=by rw [hcn,hcs];exact List.length_filter_le _ _
 have hcn1:cn≤1000:=by have:=HL.out;omega
 have hsz1:=hq1.chg.size
 have hvl:=fun q hq=>((HH.out.row.lt q hq).2:q<w.heap.size)
 have HZ1:=Lib.hid hz1
 have HCS:=Lib.hid hcs
 have HCN:=Lib.hid hcn
 have HCL:=Lib.hid hcl
 have HTO:=Lib.hid htold
 have HOV:=Lib.hid hov
 have HQ1:=Lib.hid hq1
 have HEB:Hid (eb<w.heap.size):=Lib.hid (HH.out.lt _ ⟨0,rfl⟩)
 have HST:Hid (EnI w0 w1 ⟨eb,tb,sb,mb,lb⟩ (zk z1 z.v (z.L ++ idsL (cs.take 0)))∧QTo w (z.own ⟨eb,tb,sb,mb,lb⟩) w1 ((zk z1 z.v (z.L ++ idsL (cs.take 0))).own ⟨eb,tb,sb,mb,lb⟩)∧Chg (fun q=>q<w.heap.size) w1 w1∧∀ q,z.v.ownBlock=some q→q<w.heap.size∨w1.heap.size≤q):=Lib.hid (by
  have e:zk z1 z.v (z.L ++ idsL (cs.take 0))=z1:=by unfold zk;rw [hz1];simp [idsL]
  rw [e]
  exact ⟨hi1,hq1,Chg.refl _ _,fun q hq=>.inl (hvl q hq)⟩)
 clear hT1 hF1 htold hov hi1 hq1 hz1 hcs hlen hcn hcl hsz1 hvl HN c2
 go_wp2_with fail
 go_loopw [23] (fun i wr=>∃ k:Nat,k≤cn∧i = .int .i64 k∧Hid (∃ v0,EnI w0 wr ⟨eb,tb,sb,mb,lb⟩ (zk z1 v0 (z.L ++ idsL (cs.take k)))∧QTo w (z.own ⟨eb,tb,sb,mb,lb⟩) wr ((zk z1 v0 (z.L ++ idsL (cs.take k))).own ⟨eb,tb,sb,mb,lb⟩)∧Chg (fun q=>q<w.heap.size) w1 wr∧∀ q,v0.ownBlock=some q→q<w.heap.size∨w1.heap.size≤q)) (fun i _=>cn - (intOf i).toNat)
 case atStart=>exact ⟨0,Nat.zero_le _,rfl,Lib.hid ⟨_,HST.out⟩⟩
 case round=>
  obtain ⟨k,hk,rfl,hX⟩:=hrel
  obtain ⟨v0,hi,hq,hc,hv0⟩:=hX.out
  clear hX
  by_cases hkl:k<cn
  ·as_aux_lemma=>
    have hkl':(k:Int)<(cn:Int):=by omega
    obtain ⟨p,hp⟩:∃ p,cs[k]? = some p:=⟨_,List.getElem?_eq_getElem (by rw [←HCN.out];exact hkl)⟩
    have hto:Told wr (.slice ma cn mc) (z.hd+1) l (comeL z.ws (z.hd+1)):={ HTO.out with row:=HTO.out.row.chg hc (fun g hg e=>by have:=HOV.out g hg;omega)}
    have hp':=hp
    rw [HCS.out] at hp'
    obtain ⟨q,ps,rfl,k0,k1,k3,_,ah,k2⟩:=hto.at_ hp'
    obtain ⟨va,vc,hv⟩:=hi.row.slice
    obtain ⟨vn,hvn⟩:∃ n,n=(zk z1 v0 (z.L ++ idsL (cs.take k))).L.length:=⟨_,rfl⟩
    rw [←hvn] at hv
    have hv:v0 = .slice va vn vc:=hv
    obtain ⟨X,hX⟩:∃ X:Int,X=((z.hd+1:Nat):Int):=⟨_,rfl⟩
    obtain ⟨R,hR⟩:∃ R:Int,R=((p.2:Nat):Int):=⟨_,rfl⟩
    rw [←hX] at k0
    rw [←hR] at k1
    obtain ⟨MB,hMB⟩:∃ Y,Y=wr.heap.size:=⟨_,rfl⟩
    obtain ⟨W3,hW3⟩:∃ W,W=wr.alloc (.cells #[.int .i64 X,.int .i64 R,.int .i64 (ah:Int),.int .i64 (ps:Int)] 89):=⟨_,rfl⟩
    have hc3:Chg (fun _=>False) wr W3:=hW3▸Chg.alloc _ (Chg.refl _ _) _
    have HI3:=Lib.hid (hi.new hc3)
    have HMB:Hid (W3.cell? ⟨MB,1,none⟩=some (.int .i64 R)):=Lib.hid (by rw [hW3,hMB];exact cells4m wr _ _ _ _ 1 (by decide))
    have HV:Hid ((zk z1 v0 (z.L ++ idsL (cs.take k))).v = .slice va vn vc):=Lib.hid hv
    have hlt:(z.L ++ idsL (cs.take k)).length≤1000:=by
     rw [List.length_append]
     unfold idsL
     rw [List.length_map,List.length_take]
     have:=HL.out
     have:=HCL.out
     omega
    have HLN:Hid ((zk z1 v0 (z.L ++ idsL (cs.take k))).L.length+1≤1000000):=Lib.hid (by show (z.L ++ idsL (cs.take k)).length+1≤_;omega)
    have HTK:Hid (z.L ++ idsL (cs.take (k+1))=(z.L ++ idsL (cs.take k)) ++ [R]):=Lib.hid (by
     rw [List.take_add_one,hp,hR,List.append_assoc]
     unfold idsL
     rw [List.map_append]
     rfl)
    have HFIN:Hid (∀ v w7,HrX w0 W3 w7 ⟨eb,tb,sb,mb,lb⟩ (zk z1 v0 (z.L ++ idsL (cs.take k))) R v→Hid (∃ v0,EnI w0 w7 ⟨eb,tb,sb,mb,lb⟩ (zk z1 v0 (z.L ++ idsL (cs.take (k+1))))∧QTo w (z.own ⟨eb,tb,sb,mb,lb⟩) w7 ((zk z1 v0 (z.L ++ idsL (cs.take (k+1)))).own ⟨eb,tb,sb,mb,lb⟩)∧Chg (fun q=>q<w.heap.size) w1 w7∧∀ q,v0.ownBlock=some q→q<w.heap.size∨w1.heap.size≤q)):=Lib.hid (fun v w7 ⟨a1,a2,a3,a4,_⟩=>Lib.hid (by
     rw [HTK.out]
     have s1:=hc.size
     have s3:=hc3.size
     refine ⟨v,a1,hq.trans ((QTo.of_new hc3).trans a2),(hc.trans (hc3.wide (fun _ _ e=>e.elim)) (fun _ _ e=>e)).trans a3 (fun i hi e=>?_),fun q hq=>?_⟩
     ·rcases e with e|e
      ·have:=HEB.out
       have e:i=eb:=e
       omega
      ·rcases hv0 i e with e|e
       ·exact e
       ·omega
     ·rcases a4 q hq with e|e
      ·exact hv0 q e
      ·exact .inr (by omega)))
    have HW3:=Lib.hid hW3
    have HMBE:=Lib.hid hMB
    clear hi hq hc hv0 hto hp hp' hv hvn hX hR hc3 hW3 hMB hlt
    go_upto_region 5 with fail
    rw [←HW3.out,←HMBE.out]
    clear k0 k1 k2 k3 hkl'
    refine region_pt (n:=41) 12 [7,8,11] rfl rfl (by kernel_rfl) (by kernel_rfl) (by kernel_rfl) (fun i v=>match i with|0=>v = .pointer (some ⟨eb,0,none⟩)|1=>v = .pointer (some ⟨eb,0,none⟩)|2=>v = .pointer (some ⟨eb,0,none⟩)|3=>v = .pointer (some ⟨eb,3,none⟩)|4=>v = .slice va vn vc|5=>v = .pointer (some ⟨MB,1,none⟩)|6=>v = .int .i64 R|9=>v = .pointer (some ⟨eb,0,none⟩)|10=>v = .pointer (some ⟨eb,3,none⟩)|_=>True)
     (fun p f w'=>HrG w0 W3 w' ⟨eb,tb,sb,mb,lb⟩ (zk z1 v0 (z.L ++ idsL (cs.take k))) R p (f 34) (f 35)) ?_ ?_ ?_
    ·exact ⟨HI3.out.new (Chg.refl _ _).drew,(Chg.refl _ _).drew⟩
    ·simp only [AllAt]
     refine ⟨?_,?_,?_,?_,?_,?_,?_,?_,?_,?_,?_,?_,trivial⟩
     ·refine StepPT.reg (fun f hp=>wanted_none rfl) (by decide) (fun d hd=>by cases hd;decide) ?_
      intro f w' p hG hup hdn hfr hp K hK
      have g0:f 0 = .pointer (some ⟨eb,0,none⟩):=hfr 0 (by kernel_rfl)
      clear hfr hp hup hdn
      go_simp
      exact hK _ _ rfl hG
     ·refine StepPT.reg (fun f hp=>wanted_none rfl) (by decide) (fun d hd=>by cases hd;decide) ?_
      intro f w' p hG hup hdn hfr hp K hK
      have g0:f 0 = .pointer (some ⟨eb,0,none⟩):=hfr 0 (by kernel_rfl)
      clear hfr hp hup hdn
      go_simp
      exact hK _ _ rfl hG
     ·refine StepPT.reg (fun f hp=>wanted_none rfl) (by decide) (fun d hd=>by cases hd;decide) ?_
      intro f w' p hG hup hdn hfr hp K hK
      have g28:f 28 = .pointer (some ⟨eb,0,none⟩):=hp 1 _ 28 rfl rfl (by kernel_rfl)
      clear hfr hp hup hdn
      go_simp
      exact hK _ _ rfl hG
     ·refine StepPT.reg (fun f hp=>wanted_none rfl) (by decide) (fun d hd=>by cases hd;decide) ?_
      intro f w' p hG hup hdn hfr hp K hK
      have g29:f 29 = .pointer (some ⟨eb,0,none⟩):=hp 2 _ 29 rfl rfl (by kernel_rfl)
      clear hfr hp hup hdn
      go_simp
      exact hK _ _ rfl hG
     ·refine StepPT.reg (fun f hp=>wanted_none rfl) (by decide) (fun d hd=>by cases hd;decide) ?_
      intro f w' p hG hup hdn hfr hp K hK
      have g30:f 30 = .pointer (some ⟨eb,3,none⟩):=hp 3 _ 30 rfl rfl (by kernel_rfl)
      have hpp:p≤1:=by have:=hdn 1 (by decide) (.inl (by kernel_rfl));omega
      have c2:=HrG.cell0 hpp hG
      rw [HV.out] at c2
      clear hpp
      clear hfr hp hup hdn
      go_simp
      exact hK _ _ rfl hG
     ·refine StepPT.reg (fun f hp=>wanted_none rfl) (by decide) (fun d hd=>by cases hd;decide) ?_
      intro f w' p hG hup hdn hfr hp K hK
      have g10:f 10 = .pointer (some ⟨MB,0,none⟩):=hfr 10 (by kernel_rfl)
      clear hfr hp hup hdn
      go_simp
      exact hK _ _ rfl hG
     ·refine StepPT.reg (fun f hp=>wanted_none rfl) (by decide) (fun d hd=>by cases hd;decide) ?_
      intro f w' p hG hup hdn hfr hp K hK
      have g32:f 32 = .pointer (some ⟨MB,1,none⟩):=hp 5 _ 32 rfl rfl (by kernel_rfl)
      have hpp:p≤0:=by have:=hdn 0 (by decide) (.inl (by kernel_rfl));omega
      obtain rfl:p=0:=by omega
      have c3:=hG.2.cell HMB.out (fun x=>x)
      clear hpp
      clear hfr hp hup hdn
      go_simp
      exact hK _ _ rfl hG
     ·refine StepPT.wr 0 (fun f hp=>wanted_none rfl) (by decide) rfl (fun d hd=>by cases hd;decide) (fun j hj=>by omega) ?_
      intro f w' hG hfr hp K hK
      have g33:f 33 = .int .i64 R:=hp 6 _ 33 rfl rfl (by kernel_rfl)
      clear hfr hp
      go_simp
      exact hK _ _ (fun _=>trivial) (HrG.made hG)
     ·refine StepPT.wr 1 (fun f hp=>wanted_none rfl) (by decide) rfl (fun d hd=>by cases hd;decide) (fun j hj=>by (obtain rfl:j=0:=(by omega));kernel_rfl) ?_
      intro f w' hG hfr hp K hK
      have g31:f 31 = .slice va vn vc:=hp 4 _ 31 rfl rfl (by kernel_rfl)
      clear hfr hp
      obtain ⟨q,v',w2',hq,hrun,hG2⟩:=HrG.app HLN.out hG 52
      rw [HV.out] at hrun
      unfold Oper.wp
      simp [execOp,resolve,invoke,builtin,fr_eval,g31,hq,hrun,Result.andThen]
      exact hK _ _ (fun _=>trivial) hG2
     ·refine StepPT.reg (fun f hp=>wanted_none rfl) (by decide) (fun d hd=>by cases hd;decide) ?_
      intro f w' p hG hup hdn hfr hp K hK
      have g27:f 27 = .pointer (some ⟨eb,0,none⟩):=hp 0 _ 27 rfl rfl (by kernel_rfl)
      clear hfr hp hup hdn
      go_simp
      exact hK _ _ rfl hG
     ·refine StepPT.reg (fun f hp=>wanted_none rfl) (by decide) (fun d hd=>by cases hd;decide) ?_
      intro f w' p hG hup hdn hfr hp K hK
      have g36:f 36 = .pointer (some ⟨eb,0,none⟩):=hp 9 _ 36 rfl rfl (by kernel_rfl)
      clear hfr hp hup hdn
      go_simp
      exact hK _ _ rfl hG
     ·refine StepPT.wr 2 (fun f hp=>wanted_none rfl) (by decide) rfl (fun d hd=>by cases hd) (fun j hj=>by rcases (by omega:j=0∨j=1) with rfl|rfl<;>kernel_rfl) ?_
      intro f w' hG hfr hp K hK
      have g37:f 37 = .pointer (some ⟨eb,3,none⟩):=hp 10 _ 37 rfl rfl (by kernel_rfl)
      clear hfr hp
      obtain ⟨va',vn',vc',g35,hE,hf3,⟨ov,c3⟩⟩:=hG
      have HG2:=Lib.hid hE
      have HEQ:Hid (w'.setCell ⟨eb,3,none⟩ (.slice va' vn' vc')=w'.setCell ⟨eb,3,none⟩ (f 35)):=Lib.hid (by rw [g35])
      clear hE
      go_simp
      rw [HEQ.out]
      exact hK undef _ (fun _=>trivial) HG2.out
    ·intro f w7 hG hfr hR
     have HX:Hid (HrX w0 W3 w7 ⟨eb,tb,sb,mb,lb⟩ (zk z1 v0 (z.L ++ idsL (cs.take k))) R (f 35)):=Lib.hid hG
     have hback:=fr_back (n:=41) (f:=f) (D:=[27,28,29,30,31,32,33,34,35,36,37]) rfl (by kernel_rfl) hfr
     rw [hback]
     simp only [mixL,List.elem_eq_contains,List.contains_cons,List.contains_nil,Nat.reduceBEq,Nat.reduceAdd,Bool.or_false,Bool.or_true,Bool.false_or,Bool.true_or,cond_false,cond_true,Bool.or_self,Nat.zero_add]
     clear hback hfr hG hR
     go_wp2_with fail
     exact ⟨⟨k+1,by omega,by go_num,HFIN.out _ _ HX.out⟩,by simp [intOf];omega⟩
  ·as_aux_lemma=>
    have hkc:k=cn:=by omega
    subst hkc
    have hL:z.L ++ idsL (cs.take k)=z.L ++ idsL cs:=by rw [List.take_of_length_le (by rw [HCN.out];exact Nat.le_refl _)]
    have HE:Hid (∃ z',EnI w0 wr ⟨eb,tb,sb,mb,lb⟩ z'∧QTo w (z.own ⟨eb,tb,sb,mb,lb⟩) wr (z'.own ⟨eb,tb,sb,mb,lb⟩)∧HearE z z'):=Lib.hid ⟨_,hi,hq,⟨by rw [HZ1.out];rfl,by rw [HZ1.out];rfl,by rw [HZ1.out];rfl,by rw [HZ1.out];rfl,by rw [HZ1.out];rfl,by rw [HZ1.out];rfl,by rw [HZ1.out];rfl,by rw [←HCS.out];exact hL⟩⟩
    clear hi hq hc hv0 hL
    go_wp2_with fail
    go_ret2
    exact ⟨rfl,HE.out⟩
theorem dhear_off {w0 w:World} {B:EnB} {z:EnG} (h:EnI w0 w B z) (now:Int) (hle:now≤z.hd) (hx:(z.hd:Int)≤4611686018427387904) :
 Calls Tryz.prog 43 #[.pointer (some ⟨B.eb,0,none⟩),.int .i64 now] w fun e w'=>e = .returned (.tuple #[.bool false,.int .i64 0])∧Chg (fun _=>False) w w':=by
 obtain ⟨c0,c1,c2,c3,fz⟩:=h.cells
 have HN:=Lib.hid (h.lg.off now hle hx)
 clear h hle hx c0 c1 c3 fz
 go_enter Tryz.func43,Tryz.ntmps43
 go_wp2_with fail
 refine HN.out.mono ?_
 rintro e w1 ⟨rfl,hb⟩
 have HB:Hid (Chg (fun _=>False) w w1):=Lib.hid (Chg.of_below hb)
 clear hb
 go_wp2_with fail
 go_loopw [23] (fun i wr=>i = .int .i64 0∧wr=w1) (fun _ _=>0)
 case atStart=>exact ⟨rfl,rfl⟩
 case round=>
  obtain ⟨rfl,rfl⟩:=hrel
  go_wp2_with fail
  go_ret2
  exact ⟨rfl,HB.out⟩
end Go.Proofs.YtajmeimjaapagaaGreatDoor
namespace Go.Proofs.YtajmeimjaapagaaGreatDoor
open Go.RowKit Go.Deep
attribute [local go_sem] fr_opt
def AtW (W w:World):Prop:=w=W
theorem dbring_gone {w0 w:World} {B:EnB} {z:EnG} (h:EnI w0 w B z) (a now:Int) (ha:(Lit.int .i64 a).wf=true) (hs:stP z.M a≠1) :
 Calls Tryz.prog 44 #[.pointer (some ⟨B.eb,0,none⟩),.int .i64 a,.int .i64 now] w fun e w'=>e = .returned (.int .i64 0)∧w=w':=by
 obtain ⟨_,c1,_,_,_⟩:=h.cells
 have HS:=Lib.hid (pstate_any h.pe a ha)
 obtain ⟨x,hx⟩:∃ x,x=stP z.M a:=⟨_,rfl⟩
 rw [←hx] at HS hs
 have hxb:(x != 1)=true:=by simpa using hs
 clear h ha hs hx
 go_enter Tryz.func44,Tryz.ntmps44
 go_wp2_with fail
 refine HS.out.mono ?_
 rintro e w1 ⟨rfl,rfl⟩
 go_wp2_with fail
 go_ret
 exact ⟨rfl,rfl⟩
def BringTo (w0 w:World) (B:EnB) (C:Nat) (z:EnG) (k p j:Nat) (r:RcM) (now:Int) (e:Ending) (w':World):Prop:=
 (e = .returned (.int .i64 7)∧C<1351*k+1351∧Chg (fun _=>False) w w') ∨
 (∃ bs x',e = .returned (.int .i64 0)∧putO (dlvM r.m r.id now)=some bs∧EnA w0 w' B C { z with x:=x',M:=putP z.M (r.id:Int) (2,0)} (k+1) p j∧QTo w (z.own B) w' (EnG.own B { z with x:=x',M:=putP z.M (r.id:Int) (2,0)}) ∧
  RS { z with x:=x' }=RS z ++ [⟨idL z.x.l bs,bs.length,dlvM r.m r.id now⟩]∧(∀ q∈RS z,q.id<idL z.x.l bs)∧(bytesI z.x.l).length≤idL z.x.l bs∧idL z.x.l bs+bs.length=(bytesI x'.l).length∧idL z.x.l bs≤1000000)
set_option maxHeartbeats 8000000 in
set_option maxRecDepth 100000 in
theorem dbring_on {w0 w:World} {B:EnB} {C:Nat} {z:EnG} {k pp j:Nat} (h:EnA w0 w B C z k pp j) (hk:k≤190) {r:RcM} (hr:r∈RS z) (hkd:r.m.kind=2) (hs:stP z.M (r.id:Int)=1) (now:Int) (h0:0≤now) (h1:now≤1099511627776) :
 Calls Tryz.prog 44 #[.pointer (some ⟨B.eb,0,none⟩),.int .i64 (r.id:Int),.int .i64 now] w (BringTo w0 w B C z k pp j r now):=by
 obtain ⟨c0,c1,_,_,_⟩:=h.i.cells
 obtain ⟨hk0,bs0,hp0,_⟩:=(h.on (by omega) hr).put h.i.tp
 have hrid:r.id≤1000000:=by have:=h.recs r hr;have:=h.len;omega
 have hbd:=put_bd hk0 hp0
 have hdp:=dlv_put (id:=(r.id:Int)) (now:=now) hkd hp0 ⟨Int.natCast_nonneg _,by omega⟩ ⟨h0,h1⟩
 have hsd:Sound (dlvM r.m r.id now):=⟨(bd_sound hbd).topic,(bd_sound hbd).tag,(bd_sound hbd).body,(bd_sound hbd).many,(bd_sound hbd).keys⟩
 have HS:=Lib.hid (pstate_any h.i.pe (r.id:Int) (twf_nat _ (by omega)))
 rw [hs] at HS
 have HRD:=Lib.hid ((h.on (by omega) hr).read h.i.tp)
 have HH:=Lib.hid h
 have HK:=Lib.hid hk
 have HBD:=Lib.hid hbd
 have HDP:=Lib.hid hdp
 have HSD:=Lib.hid hsd
 have hnd:∀ a:Int,0≤a→(noteP z.M a 3 r.m.due (r.id:Int)).2=putP z.M (r.id:Int) (2,0):=fun a ha=>note_dlv ha hs
 have hlen:(putP z.M (r.id:Int) (2,0)).length≤z.M.length:=by
  have:=(putP_keys h.i.pe.good (a:=(r.id:Int)) (by omega) (2,0)).length_eq
  rw [List.length_map,List.length_map] at this
  omega
 have HND0:=Lib.hid hnd
 have HLN:=Lib.hid hlen
 have HRID:=Lib.hid hrid
 obtain ⟨r0,rlen,m1,mq,m3,m4,m5,m6,m7,m8,m9,m10⟩:=r
 have hkd:m1=2:=hkd
 subst hkd
 obtain ⟨eb,tb,sb,mb,lb⟩:=B
 unfold ReadTo MsgM.val MsgM.cells at HRD
 unfold BringTo
 dsimp only at *
 obtain ⟨rid,hrd⟩:∃ x:Int,x=(r0:Int):=⟨_,rfl⟩
 rw [←hrd] at HS HRD HDP HSD HND0 HLN ⊢
 have HRI:=Lib.hid hrd
 have HNW:Hid (0≤now∧now≤1099511627776):=Lib.hid ⟨h0,h1⟩
 clear h hk hr hs hk0 hp0 hrid hbd hdp hsd hnd hlen hrd h0 h1
 go_enter Tryz.func44,Tryz.ntmps44
 go_wp2_with fail
 refine HS.out.mono ?_
 rintro e w1 ⟨rfl,rfl⟩
 go_wp2_with fail
 refine HRD.out.mono ?_
 rintro e w5 ⟨vk,rfl,hst,hcp,hb5⟩
 obtain ⟨ka,kc,hva,_⟩:=id hst
 obtain ⟨nk,hnk⟩:∃ n,n=m10.length:=⟨_,rfl⟩
 rw [←hnk] at hva
 subst hva
 obtain ⟨MB,hMB⟩:∃ q,q=w5.heap.size:=⟨_,rfl⟩
 obtain ⟨W1,hW1⟩:∃ W,W=w5.alloc (.cells #[.int .i64 2,.int .i64 mq,.int .i64 m3,.int .i64 m4,.int .i64 m5,.int .i64 m6,.string m7,.string m8,.string m9,.slice ka nk kc] 36):=⟨_,rfl⟩
 have hc5:Chg (fun _=>False) w w5:=Chg.of_below hb5
 have hc1:Chg (fun _=>False) w5 W1:=hW1▸Chg.alloc _ (Chg.refl _ _) _
 have hbx:Box W1 MB #[.int .i64 2,.int .i64 mq,.int .i64 m3,.int .i64 m4,.int .i64 m5,.int .i64 m6,.string m7,.string m8,.string m9,.slice ka nk kc]:=by rw [hW1,hMB];exact Box.new w5 _
 have hdl:Calls Tryz.prog 24 #[.int .i64 rid,.agg #[.int .i64 2,.int .i64 mq,.int .i64 m3,.int .i64 m4,.int .i64 m5,.int .i64 m6,.string m7,.string m8,.string m9,.slice ka nk kc],.int .i64 now] W1 (DlvTo ⟨2,mq,m3,m4,m5,m6,m7,m8,m9,m10⟩ rid now W1):=ddlv_any ⟨2,mq,m3,m4,m5,m6,m7,m8,m9,m10⟩ (.slice ka nk kc) rid now W1 (hst.zero.below (chg_below hc1) (Nat.le_refl _)) (by have:=HBD.out.many;dsimp only at this ⊢;omega)
 have hmw:w.heap.size≤MB:=by rw [hMB];exact hc5.size
 have k1:=hbx.cell
 have HDL:=Lib.hid hdl
 have HW1:=Lib.hid hW1
 have HMBE:=Lib.hid hMB
 have HC1:=Lib.hid (hc5.trans hc1 (fun _ _ x=>x))
 have HBX:=Lib.hid hbx
 have HMB:=Lib.hid hmw
 have HNK:=Lib.hid hnk
 clear hst hcp hb5 hnk hMB hW1 hc5 hc1 hbx hdl hmw HS HRD
 go_upto_region 8 with fail
 rw [←HW1.out,←HMBE.out]
 go_wp2_with fail
 unfold DlvTo dlvM MsgM.val MsgM.cells at HDL
 dsimp only at HDL
 refine HDL.out.mono ?_
 rintro e w6 ⟨a6,c6,rfl,hst6,hcc6,hc6⟩
 rw [←HNK.out] at hst6 hcc6 ⊢
 have hbx6:=hc6.heap HBX.out (fun x=>x)
 have hbx6:Box w6 MB #[.int .i64 2,.int .i64 mq,.int .i64 m3,.int .i64 m4,.int .i64 m5,.int .i64 m6,.string m7,.string m8,.string m9,.slice ka nk kc]:=hbx6
 obtain ⟨W2,hW2⟩:∃ W,W=set10 w6 MB (.int .i64 3) (.int .i64 mq) (.int .i64 m3) (.int .i64 m4) (.int .i64 rid) (.int .i64 now) (.string m7) (.string m8) (.string m9) (.slice a6 nk c6):=⟨_,rfl⟩
 have hb2:Box W2 MB #[.int .i64 3,.int .i64 mq,.int .i64 m3,.int .i64 m4,.int .i64 rid,.int .i64 now,.string m7,.string m8,.string m9,.slice a6 nk c6]:=hW2▸box_fill hbx6 _ _ _ _ _ _ _ _ _ _
 have hcs:Chg (fun q=>q=MB) w6 W2:=hW2▸chg_set10 _ _ _ _ _ _ _ _ _ _ _ _
 have hc2:Chg (fun _=>False) w W2:=(HC1.out.trans hc6 (fun _ _ x=>x)).trans hcs (fun i hi (e:i=MB)=>by have:=HMB.out;omega)
 have hst2:Strs W2 W1.heap.size (.slice a6 nk c6) m10:=by rw [hW2];exact strs_set10 hst6 HBX.out.lt _ _ _ _ _ _ _ _ _ _
 have h2:=HH.out.new hc2
 obtain ⟨y0,_,_,_,_⟩:=h2.i.cells
 have e2:=hb2.cell
 have k6:=hbx6.cell
 have f6:=hbx6.free
 have HAA:=h2.new (Chg.refl (fun _=>False) W2).drew
 have hsd:=hst2.zero.below (chg_below (Chg.refl (fun _=>False) W2).drew) (Nat.le_refl _)
 have hap:=HAA.append7 (by have:=HK.out;omega) ⟨3,mq,m3,m4,rid,now,m7,m8,m9,m10⟩ (.slice a6 nk c6) hsd ⟨_,_,_,rfl,hcc6⟩ HSD.out
 unfold set10 at hW2
 have HW2:=Lib.hid hW2
 have HAPP:=Lib.hid hap
 have HB2:Hid (Box W2.drew MB #[.int .i64 3,.int .i64 mq,.int .i64 m3,.int .i64 m4,.int .i64 rid,.int .i64 now,.string m7,.string m8,.string m9,.slice a6 nk c6]):=Lib.hid hb2
 have HCD:Hid (Chg (fun _=>False) w W2.drew):=Lib.hid (hc2.trans (Chg.refl _ _).drew (fun _ _ x=>x))
 have HC0:Hid (W2.drew.cell? ⟨eb,0,none⟩=some (.pointer (some ⟨tb,0,none⟩))):=Lib.hid y0
 have HKB:Hid (∀ i,W2.drew.cell? ⟨MB,i,none⟩=(#[.int .i64 3,.int .i64 mq,.int .i64 m3,.int .i64 m4,.int .i64 rid,.int .i64 now,.string m7,.string m8,.string m9,.slice a6 nk c6]:Array Value)[i]?):=Lib.hid e2
 clear hst6 hcc6 hc6 hbx6 hW2 hb2 hcs hc2 hst2 h2 HAA hsd hap HDL k1 y0 e2
 go_upto_region 9 with fail
 rw [←HW2.out]
 clear k6 f6
 rcases HAPP.out with ⟨er,q1,q2,hA⟩|⟨bs,p1,p2,p3,p4,p5,hA⟩
 ·have h7:er=7∧C<1351*k+1351:=by
   rcases q2 with ⟨_,a|a⟩|a
   ·exact absurd a (show ¬ (3:Int)=0 by decide)
   ·have e:=HDP.out
    unfold dlvM at e
    dsimp only at e
    rw [a] at e
    cases e
   ·exact a
  obtain ⟨rfl,hcc⟩:=h7
  have HCC:=Lib.hid hcc
  have HAP:=Lib.hid hA
  unfold MsgM.val MsgM.cells ERefTo at HAP
  dsimp only at HAP
  clear q1 q2 hA hcc HAPP c0 c1
  refine region_pt (n:=58) 12 [5] rfl rfl (by kernel_rfl) (by kernel_rfl) (by kernel_rfl) (fun i v=>match i with|0=>v = .pointer (some ⟨eb,0,none⟩)|1=>v = .pointer (some ⟨eb,0,none⟩)|2=>v = .pointer (some ⟨eb,0,none⟩)|3=>v = .pointer (some ⟨tb,0,none⟩)|4=>v = .agg #[.int .i64 3,.int .i64 mq,.int .i64 m3,.int .i64 m4,.int .i64 rid,.int .i64 now,.string m7,.string m8,.string m9,.slice a6 nk c6]|5=>v = .tuple #[.int .i64 0,.int .i64 7]|6=>v = .tuple #[.int .i64 0,.int .i64 7]|7=>v = .int .i64 0|8=>v = .int .i64 7|9=>v = .int .i64 0|10=>v = .int .i64 7|_=>True)
   (fun p f w'=>match p with|0=>AtW W2.drew w'|_+1=>Chg (fun _=>False) w w') ?_ ?_ ?_
  ·exact rfl
  ·simp only [AllAt]
   refine ⟨?_,?_,?_,?_,?_,?_,?_,?_,?_,?_,?_,trivial⟩
   ·refine StepPT.reg (fun f hp=>wanted_none rfl) (by decide) (fun d hd=>by cases hd;decide) ?_
    intro f w' p hG hup hdn hfr hp K hK
    have g0:f 0 = .pointer (some ⟨eb,0,none⟩):=hfr 0 (by kernel_rfl)
    clear hfr hp hup hdn
    go_simp
    exact hK _ _ rfl hG
   ·refine StepPT.reg (fun f hp=>wanted_none rfl) (by decide) (fun d hd=>by cases hd;decide) ?_
    intro f w' p hG hup hdn hfr hp K hK
    have g40:f 40 = .pointer (some ⟨eb,0,none⟩):=hp 0 _ 40 rfl rfl (by kernel_rfl)
    clear hfr hp hup hdn
    go_simp
    exact hK _ _ rfl hG
   ·refine StepPT.reg (fun f hp=>wanted_none rfl) (by decide) (fun d hd=>by cases hd;decide) ?_
    intro f w' p hG hup hdn hfr hp K hK
    have g41:f 41 = .pointer (some ⟨eb,0,none⟩):=hp 1 _ 41 rfl rfl (by kernel_rfl)
    clear hfr hp hup hdn
    go_simp
    exact hK _ _ rfl hG
   ·refine StepPT.reg (fun f hp=>wanted_none rfl) (by decide) (fun d hd=>by cases hd;decide) ?_
    intro f w' p hG hup hdn hfr hp K hK
    have g42:f 42 = .pointer (some ⟨eb,0,none⟩):=hp 2 _ 42 rfl rfl (by kernel_rfl)
    have hpp:p≤0:=by have:=hdn 0 (by decide) (.inl (by kernel_rfl));omega
    obtain rfl:p=0:=by omega
    have hE:w'=W2.drew:=hG
    have c2:=HC0.out
    rw [←hE] at c2
    clear hE
    clear hfr hp hup hdn
    go_simp
    exact hK _ _ rfl hG
   ·refine StepPT.reg (fun f hp=>wanted_none rfl) (by decide) (fun d hd=>by cases hd;decide) ?_
    intro f w' p hG hup hdn hfr hp K hK
    have g7:f 7 = .pointer (some ⟨MB,0,none⟩):=hfr 7 (by kernel_rfl)
    have hpp:p≤0:=by have:=hdn 0 (by decide) (.inl (by kernel_rfl));omega
    obtain rfl:p=0:=by omega
    have hE:w'=W2.drew:=hG
    have kb:=HKB.out
    rw [←hE] at kb
    clear hE
    clear hfr hp hup hdn
    go_simp
    exact hK _ _ rfl hG
   ·refine StepPT.wr 0 (fun f hp=>wanted_none rfl) (by decide) rfl (fun d hd=>by cases hd;decide) (fun j hj=>by omega) ?_
    intro f w' hG hfr hp K hK
    have g43:f 43 = .pointer (some ⟨tb,0,none⟩):=hp 3 _ 43 rfl rfl (by kernel_rfl)
    have g44:f 44 = .agg #[.int .i64 3,.int .i64 mq,.int .i64 m3,.int .i64 m4,.int .i64 rid,.int .i64 now,.string m7,.string m8,.string m9,.slice a6 nk c6]:=hp 4 _ 44 rfl rfl (by kernel_rfl)
    clear hfr hp
    have hE:w'=W2.drew:=hG
    subst hE
    go_simp
    refine (HAP.out).mono ?_
    rintro e w8 ⟨rfl,hb8⟩
    exact hK _ _ (fun _=>rfl) (Chg.trans HCD.out (below_chg hb8) (fun _ _ x=>x))
   ·refine StepPT.reg (fun f hp=>wanted_none rfl) (by decide) (fun d hd=>by cases hd;decide) ?_
    intro f w' p hG hup hdn hfr hp K hK
    have g45:f 45 = .tuple #[.int .i64 0,.int .i64 7]:=hp 5 _ 45 rfl rfl (by kernel_rfl)
    clear hfr hp hup hdn
    go_simp
    exact hK _ _ rfl hG
   ·refine StepPT.reg (fun f hp=>wanted_none rfl) (by decide) (fun d hd=>by cases hd;decide) ?_
    intro f w' p hG hup hdn hfr hp K hK
    have g39:f 39 = .tuple #[.int .i64 0,.int .i64 7]:=hp 6 _ 39 rfl rfl (by kernel_rfl)
    clear hfr hp hup hdn
    go_simp
    exact hK _ _ rfl hG
   ·refine StepPT.reg (fun f hp=>wanted_none rfl) (by decide) (fun d hd=>by cases hd;decide) ?_
    intro f w' p hG hup hdn hfr hp K hK
    have g39:f 39 = .tuple #[.int .i64 0,.int .i64 7]:=hp 6 _ 39 rfl rfl (by kernel_rfl)
    clear hfr hp hup hdn
    go_simp
    exact hK _ _ rfl hG
   ·refine StepPT.reg (fun f hp=>wanted_none rfl) (by decide) (fun d hd=>by cases hd;decide) ?_
    intro f w' p hG hup hdn hfr hp K hK
    have g46:f 46 = .int .i64 0:=hp 7 _ 46 rfl rfl (by kernel_rfl)
    clear hfr hp hup hdn
    go_simp
    exact hK _ _ rfl hG
   ·refine StepPT.reg (fun f hp=>wanted_none rfl) (by decide) (fun d hd=>by cases hd;decide) ?_
    intro f w' p hG hup hdn hfr hp K hK
    have g47:f 47 = .int .i64 7:=hp 8 _ 47 rfl rfl (by kernel_rfl)
    clear hfr hp hup hdn
    go_simp
    exact hK _ _ rfl hG
  ·intro f w8 hG hfr hR
   have g8:f 8 = .int .i64 7:=hR 10 _ 8 rfl rfl
   have g9:f 9 = .int .i64 0:=hR 9 _ 9 rfl rfl
   have HX:Hid (Chg (fun _=>False) w w8):=Lib.hid hG
   have hback:=fr_back (n:=58) (f:=f) (D:=[8,9,39,40,41,42,43,44,45,46,47]) rfl (by kernel_rfl) hfr
   rw [hback]
   simp only [mixL,List.elem_eq_contains,List.contains_cons,List.contains_nil,Nat.reduceBEq,Nat.reduceAdd,Bool.or_false,Bool.or_true,Bool.false_or,Bool.true_or,cond_false,cond_true,Bool.or_self,Nat.zero_add]
   clear hback hfr hG hR
   rw [g8,g9]
   clear g8 g9
   go_wp2_with fail
   go_ret
   exact .inl ⟨rfl,HCC.out,HX.out⟩
 ·have hwf:(Lit.int .i64 ((idL z.x.l bs:Nat):Int)).wf=true∧(Lit.int .i64 rid).wf=true:=⟨twf_nat _ (by omega),by rw [HRI.out];exact twf_nat _ (by have:=HRID.out;omega)⟩
  have HPB:=Lib.hid (And.intro p2 (And.intro p3 (And.intro p4 p5)))
  have HAP:=Lib.hid hA
  unfold MsgM.val MsgM.cells EPutTo at HAP
  dsimp only at HAP
  obtain ⟨aid,haid⟩:∃ x:Int,x=((idL z.x.l bs:Nat):Int):=⟨_,rfl⟩
  rw [←haid] at hwf
  have HAID:Hid (((idL z.x.l bs:Nat):Int)=aid):=Lib.hid haid.symm
  have HNT:Hid ((noteP z.M aid 3 m3 rid).2=putP z.M rid (2,0)):=Lib.hid (HND0.out aid (by rw [haid];exact Int.natCast_nonneg _))
  have HLEN:Hid ((noteP z.M aid 3 m3 rid).2.length≤z.M.length):=Lib.hid (by rw [HNT.out];exact HLN.out)
  have HWF:=Lib.hid hwf
  clear p1 p2 p3 p4 p5 hA hwf haid HAPP c0 c1
  refine region_pt (n:=58) 12 [5] rfl rfl (by kernel_rfl) (by kernel_rfl) (by kernel_rfl) (fun i v=>match i with|0=>v = .pointer (some ⟨eb,0,none⟩)|1=>v = .pointer (some ⟨eb,0,none⟩)|2=>v = .pointer (some ⟨eb,0,none⟩)|3=>v = .pointer (some ⟨tb,0,none⟩)|4=>v = .agg #[.int .i64 3,.int .i64 mq,.int .i64 m3,.int .i64 m4,.int .i64 rid,.int .i64 now,.string m7,.string m8,.string m9,.slice a6 nk c6]|5=>v = .tuple #[.int .i64 aid,.int .i64 0]|6=>v = .tuple #[.int .i64 aid,.int .i64 0]|7=>v = .int .i64 aid|8=>v = .int .i64 0|9=>v = .int .i64 aid|10=>v = .int .i64 0|_=>True)
   (fun p f w'=>match p with|0=>AtW W2.drew w'|_+1=>∃ x',EnA w0 w' ⟨eb,tb,sb,mb,lb⟩ C { z with x:=x' } (k+1) pp j∧QTo W2.drew (z.own ⟨eb,tb,sb,mb,lb⟩) w' (EnG.own ⟨eb,tb,sb,mb,lb⟩ { z with x:=x' })∧RS { z with x:=x' }=RS z ++ [⟨idL z.x.l bs,bs.length,⟨3,mq,m3,m4,rid,now,m7,m8,m9,m10⟩⟩]∧idL z.x.l bs+bs.length=(bytesI x'.l).length) ?_ ?_ ?_
  ·exact rfl
  ·simp only [AllAt]
   refine ⟨?_,?_,?_,?_,?_,?_,?_,?_,?_,?_,?_,trivial⟩
   ·refine StepPT.reg (fun f hp=>wanted_none rfl) (by decide) (fun d hd=>by cases hd;decide) ?_
    intro f w' p hG hup hdn hfr hp K hK
    have g0:f 0 = .pointer (some ⟨eb,0,none⟩):=hfr 0 (by kernel_rfl)
    clear hfr hp hup hdn
    go_simp
    exact hK _ _ rfl hG
   ·refine StepPT.reg (fun f hp=>wanted_none rfl) (by decide) (fun d hd=>by cases hd;decide) ?_
    intro f w' p hG hup hdn hfr hp K hK
    have g40:f 40 = .pointer (some ⟨eb,0,none⟩):=hp 0 _ 40 rfl rfl (by kernel_rfl)
    clear hfr hp hup hdn
    go_simp
    exact hK _ _ rfl hG
   ·refine StepPT.reg (fun f hp=>wanted_none rfl) (by decide) (fun d hd=>by cases hd;decide) ?_
    intro f w' p hG hup hdn hfr hp K hK
    have g41:f 41 = .pointer (some ⟨eb,0,none⟩):=hp 1 _ 41 rfl rfl (by kernel_rfl)
    clear hfr hp hup hdn
    go_simp
    exact hK _ _ rfl hG
   ·refine StepPT.reg (fun f hp=>wanted_none rfl) (by decide) (fun d hd=>by cases hd;decide) ?_
    intro f w' p hG hup hdn hfr hp K hK
    have g42:f 42 = .pointer (some ⟨eb,0,none⟩):=hp 2 _ 42 rfl rfl (by kernel_rfl)
    have hpp:p≤0:=by have:=hdn 0 (by decide) (.inl (by kernel_rfl));omega
    obtain rfl:p=0:=by omega
    have hE:w'=W2.drew:=hG
    have c2:=HC0.out
    rw [←hE] at c2
    clear hE
    clear hfr hp hup hdn
    go_simp
    exact hK _ _ rfl hG
   ·refine StepPT.reg (fun f hp=>wanted_none rfl) (by decide) (fun d hd=>by cases hd;decide) ?_
    intro f w' p hG hup hdn hfr hp K hK
    have g7:f 7 = .pointer (some ⟨MB,0,none⟩):=hfr 7 (by kernel_rfl)
    have hpp:p≤0:=by have:=hdn 0 (by decide) (.inl (by kernel_rfl));omega
    obtain rfl:p=0:=by omega
    have hE:w'=W2.drew:=hG
    have kb:=HKB.out
    rw [←hE] at kb
    clear hE
    clear hfr hp hup hdn
    go_simp
    exact hK _ _ rfl hG
   ·refine StepPT.wr 0 (fun f hp=>wanted_none rfl) (by decide) rfl (fun d hd=>by cases hd;decide) (fun j hj=>by omega) ?_
    intro f w' hG hfr hp K hK
    have g43:f 43 = .pointer (some ⟨tb,0,none⟩):=hp 3 _ 43 rfl rfl (by kernel_rfl)
    have g44:f 44 = .agg #[.int .i64 3,.int .i64 mq,.int .i64 m3,.int .i64 m4,.int .i64 rid,.int .i64 now,.string m7,.string m8,.string m9,.slice a6 nk c6]:=hp 4 _ 44 rfl rfl (by kernel_rfl)
    clear hfr hp
    have hE:w'=W2.drew:=hG
    subst hE
    go_simp
    refine (HAP.out).mono ?_
    rintro e w8 ⟨rfl,hx8⟩
    rw [HAID.out]
    exact hK _ _ (fun _=>rfl) hx8
   ·refine StepPT.reg (fun f hp=>wanted_none rfl) (by decide) (fun d hd=>by cases hd;decide) ?_
    intro f w' p hG hup hdn hfr hp K hK
    have g45:f 45 = .tuple #[.int .i64 aid,.int .i64 0]:=hp 5 _ 45 rfl rfl (by kernel_rfl)
    clear hfr hp hup hdn
    go_simp
    exact hK _ _ rfl hG
   ·refine StepPT.reg (fun f hp=>wanted_none rfl) (by decide) (fun d hd=>by cases hd;decide) ?_
    intro f w' p hG hup hdn hfr hp K hK
    have g39:f 39 = .tuple #[.int .i64 aid,.int .i64 0]:=hp 6 _ 39 rfl rfl (by kernel_rfl)
    clear hfr hp hup hdn
    go_simp
    exact hK _ _ rfl hG
   ·refine StepPT.reg (fun f hp=>wanted_none rfl) (by decide) (fun d hd=>by cases hd;decide) ?_
    intro f w' p hG hup hdn hfr hp K hK
    have g39:f 39 = .tuple #[.int .i64 aid,.int .i64 0]:=hp 6 _ 39 rfl rfl (by kernel_rfl)
    clear hfr hp hup hdn
    go_simp
    exact hK _ _ rfl hG
   ·refine StepPT.reg (fun f hp=>wanted_none rfl) (by decide) (fun d hd=>by cases hd;decide) ?_
    intro f w' p hG hup hdn hfr hp K hK
    have g46:f 46 = .int .i64 aid:=hp 7 _ 46 rfl rfl (by kernel_rfl)
    clear hfr hp hup hdn
    go_simp
    exact hK _ _ rfl hG
   ·refine StepPT.reg (fun f hp=>wanted_none rfl) (by decide) (fun d hd=>by cases hd;decide) ?_
    intro f w' p hG hup hdn hfr hp K hK
    have g47:f 47 = .int .i64 0:=hp 8 _ 47 rfl rfl (by kernel_rfl)
    clear hfr hp hup hdn
    go_simp
    exact hK _ _ rfl hG
  ·intro f w8 hG hfr hR
   have g8:f 8 = .int .i64 0:=hR 10 _ 8 rfl rfl
   have g9:f 9 = .int .i64 aid:=hR 9 _ 9 rfl rfl
   obtain ⟨x',hA8,hq8,hrs8,hend8⟩:=hG
   have hback:=fr_back (n:=58) (f:=f) (D:=[8,9,39,40,41,42,43,44,45,46,47]) rfl (by kernel_rfl) hfr
   rw [hback]
   simp only [mixL,List.elem_eq_contains,List.contains_cons,List.contains_nil,Nat.reduceBEq,Nat.reduceAdd,Bool.or_false,Bool.or_true,Bool.false_or,Bool.true_or,cond_false,cond_true,Bool.or_self,Nat.zero_add]
   clear hback hfr hR
   rw [g8,g9]
   clear g8 g9
   obtain ⟨y0,y1,_,_,_⟩:=hA8.i.cells
   dsimp only at y0 y1
   have hb8:Box w8 MB #[.int .i64 3,.int .i64 mq,.int .i64 m3,.int .i64 m4,.int .i64 rid,.int .i64 now,.string m7,.string m8,.string m9,.slice a6 nk c6]:=hq8.chg.heap HB2.out (fun hx=>by have:=HH.out.i.lt _ hx;have:=HMB.out;omega)
   have k8:=hb8.cell
   have hN:Hid (∀ W,Chg (fun _=>False) w8 W→Calls Tryz.prog 15 #[.pointer (some ⟨sb,0,none⟩),.int .i64 aid,.agg #[.int .i64 3,.int .i64 mq,.int .i64 m3,.int .i64 m4,.int .i64 rid,.int .i64 now,.string m7,.string m8,.string m9,.slice a6 nk c6]] W fun e w'=>e = .returned (.bool (noteP z.M aid 3 m3 rid).1)∧EnA w0 w' ⟨eb,tb,sb,mb,lb⟩ C { z with x:=x',M:=(noteP z.M aid 3 m3 rid).2 } (k+1) pp j∧QTo W (EnG.own ⟨eb,tb,sb,mb,lb⟩ { z with x:=x' }) w' (EnG.own ⟨eb,tb,sb,mb,lb⟩ { z with x:=x',M:=(noteP z.M aid 3 m3 rid).2 })):=Lib.hid (fun W hW=>(hA8.new hW).note (by have:=HK.out;omega) aid ⟨3,mq,m3,m4,rid,now,m7,m8,m9,m10⟩ (.slice a6 nk c6) rfl HWF.out.1 HWF.out.2 (by have:=HLEN.out;have:=HH.out.ml;dsimp only;omega))
   have HQ8:Hid (QTo w (z.own ⟨eb,tb,sb,mb,lb⟩) w8 (EnG.own ⟨eb,tb,sb,mb,lb⟩ { z with x:=x' })):=Lib.hid ((QTo.of_new HCD.out).trans hq8)
   have HR8:=Lib.hid (And.intro hrs8 hend8)
   clear hA8 hq8 hrs8 hend8 hb8 y0
   go_upto_region 12 with fail
   go_still_tail 6,(by kernel_rfl)
   repeat still_step
   change wpList _ _ _ _ _ w8.drew
   have HND:=Lib.hid (hN.out w8.drew (Chg.refl _ _).drew)
   have HQ9:Hid (QTo w (z.own ⟨eb,tb,sb,mb,lb⟩) w8.drew (EnG.own ⟨eb,tb,sb,mb,lb⟩ { z with x:=x' })):=Lib.hid (HQ8.out.trans (QTo.of_new (Chg.refl _ _).drew))
   clear hN k8 y1
   generalize w8.drew=w9 at HND HQ9 ⊢
   go_wp2_with fail
   refine HND.out.mono ?_
   rintro e w10 ⟨rfl,hA10,hq10⟩
   rw [HNT.out] at hA10 hq10
   have HE:=Lib.hid (And.intro hA10 (HQ9.out.trans hq10))
   clear hA10 hq10
   go_wp2_with fail
   go_ret
   exact .inr ⟨bs,x',rfl,HPB.out.1,HE.out.1,HE.out.2,HR8.out.1,HPB.out.2.1,HPB.out.2.2.1,HR8.out.2,HPB.out.2.2.2⟩
end Go.Proofs.YtajmeimjaapagaaGreatDoor
namespace Go.Proofs.YtajmeimjaapagaaGreatDoor
open Go.RowKit Go.Deep
theorem EnI.head {w0 w:World} {B:EnB} {z:EnG} (h:EnI w0 w B z) {a:Int} {l:List Int} (hL:z.L=a :: l):∃ g o N cap,z.v = .slice (some ⟨g,o,none⟩) N cap∧N=l.length+1∧N≤cap∧cap≤maxLen∧w.cell? ⟨g,o,none⟩=some (.int .i64 a):=by
 rcases h.row with ⟨_,e⟩|⟨g,o,cap,e,h1,h2,h3,h4,h5,h6⟩
 ·rw [hL] at e;cases e
 ·have e0:z.L.length=l.length+1:=by rw [hL];rfl
  refine ⟨g,o,z.L.length,cap,e,e0,h3,h4,?_⟩
  have:=h5 0 (by omega)
  rw [Nat.add_zero,hL] at this
  exact this
theorem EnI.tail {w0 w:World} {B:EnB} {z:EnG} (h:EnI w0 w B z) {a:Int} {l:List Int} (hL:z.L=a :: l) {g o N cap:Nat} (hv:z.v = .slice (some ⟨g,o,none⟩) N cap) (hN:N=l.length+1) (v':Value) (hv':v' = .slice (some ⟨g,o+1,none⟩) (N - 1) (cap - 1)∨(v' = .slice (some ⟨g,o,none⟩) 0 0∧cap - 1=0)) :
 EnI w0 (w.setCell ⟨B.eb,3,none⟩ v') B { z with v:=v',L:=l }∧QTo w (z.own B) (w.setCell ⟨B.eb,3,none⟩ v') (EnG.own B { z with v:=v',L:=l }):=by
 have e0:z.L.length=N:=by rw [hL,hN];rfl
 have hr:=h.row
 rw [hv,←e0] at hr
 have hlt:=OwnI.lt hr g rfl
 have hcap:N≤cap:=by
  rcases hr with ⟨e,_⟩|⟨g',o',cap',e,_,_,h3,_⟩
  ·cases e
  ·cases e
   omega
 have hd:z.L.drop 1=l:=by rw [hL];rfl
 have hob:v'.ownBlock=z.v.ownBlock:=by
  rcases hv' with e|⟨e,_⟩<;>rw [e,hv]<;>rfl
 refine h.lates (Chg.refl _ _) ?_ (fun q hq=>.inl (hob▸hq))
 rcases hv' with e|⟨e,hc⟩
 ·have:=hr.drop 1 (by omega)
  rw [hd,e0] at this
  rw [e]
  exact this
 ·have hl0:l=[]:=List.length_eq_zero_iff.1 (by omega)
  rw [e,hl0]
  exact .inr ⟨g,o,0,rfl,hlt.1,hlt.2,Nat.zero_le _,Nat.zero_le _,fun j hj=>by simp at hj,fun j hj=>by omega⟩
def DStepTo (w0 w:World) (B:EnB) (C:Nat) (z:EnG) (k p j:Nat) (now:Int) (e:Ending) (w':World):Prop:=
 (z.L=[]∧now≤z.hd∧e = .returned (.tuple #[.bool false,.int .i64 0])∧Chg (fun _=>False) w w') ∨
 (z.L=[]∧(z.hd:Int)<now∧e = .returned (.tuple #[.bool true,.int .i64 0])∧∃ z',EnA w0 w' B C z' k p (j+1)∧QTo w (z.own B) w' (z'.own B)∧HearE z z') ∨
 (∃ a l v',z.L=a :: l∧stP z.M a≠1∧e = .returned (.tuple #[.bool true,.int .i64 0])∧EnA w0 w' B C { z with v:=v',L:=l } k p j∧QTo w (z.own B) w' (EnG.own B { z with v:=v',L:=l })) ∨
 (∃ r l,z.L=(r.id:Int) :: l∧r∈RS z∧r.m.kind=2∧stP z.M (r.id:Int)=1∧e = .returned (.tuple #[.bool false,.int .i64 7])∧C<1351*k+1351∧Chg (fun _=>False) w w') ∨
 (∃ r l bs x' v',z.L=(r.id:Int) :: l∧r∈RS z∧r.m.kind=2∧stP z.M (r.id:Int)=1∧e = .returned (.tuple #[.bool true,.int .i64 0])∧putO (dlvM r.m r.id now)=some bs ∧
  EnA w0 w' B C { z with x:=x',M:=putP z.M (r.id:Int) (2,0),v:=v',L:=l } (k+1) p j∧QTo w (z.own B) w' (EnG.own B { z with x:=x',M:=putP z.M (r.id:Int) (2,0),v:=v',L:=l }) ∧
  RS { z with x:=x' }=RS z ++ [⟨idL z.x.l bs,bs.length,dlvM r.m r.id now⟩]∧(∀ q∈RS z,q.id<idL z.x.l bs)∧(bytesI z.x.l).length≤idL z.x.l bs∧idL z.x.l bs+bs.length=(bytesI x'.l).length∧idL z.x.l bs≤1000000)
theorem part_sum:∀ (ws:WL) (x:Nat),(comeL ws x).length+(restL ws x).length=ws.length
 | [],_=>rfl
 | p :: l,x=>by
  have ih:=part_sum l x
  unfold comeL restL at ih ⊢
  by_cases h:p.1=x
  ·rw [List.filter_cons_of_pos (by simp [h]),List.filter_cons_of_neg (by simp [h])]
   simp only [List.length_cons];omega
  ·rw [List.filter_cons_of_neg (by simp [h]),List.filter_cons_of_pos (by simp [h])]
   simp only [List.length_cons];omega
theorem EnA.tail {w0 w:World} {B:EnB} {C:Nat} {z:EnG} {k p j:Nat} (h:EnA w0 w B C z k p j) {a:Int} {l:List Int} (hL:z.L=a :: l) {g o N cap:Nat} (hv:z.v = .slice (some ⟨g,o,none⟩) N cap) (hN:N=l.length+1) (v':Value) (hv':v' = .slice (some ⟨g,o+1,none⟩) (N - 1) (cap - 1)∨(v' = .slice (some ⟨g,o,none⟩) 0 0∧cap - 1=0)) :
 EnA w0 (w.setCell ⟨B.eb,3,none⟩ v') B C { z with v:=v',L:=l } k p j∧QTo w (z.own B) (w.setCell ⟨B.eb,3,none⟩ v') (EnG.own B { z with v:=v',L:=l }):=by
 obtain ⟨a1,a2⟩:=h.i.tail hL hv hN v' hv'
 have hw:=h.wl
 rw [hL,List.length_cons] at hw
 exact ⟨{ i:=a1,i0:=h.i0,rl:=h.rl,ll:=h.ll,xn:=h.xn,ok:=h.ok,len:=h.len,xcap:=h.xcap,xsz:=h.xsz,cap:=h.cap,n:=h.n,P:=h.P,wl:=by show z.ws.length+l.length≤_;omega,ml:=h.ml },a2⟩
theorem step_cut {w0 w:World} {B:EnB} {C:Nat} {z:EnG} {k p j:Nat} (h:EnA w0 w B C z k p j) {a:Int} {l:List Int} (hL:z.L=a :: l) {g o N cap:Nat} (hv:z.v = .slice (some ⟨g,o,none⟩) N cap) (hN:N=l.length+1) :
 Hid (∀ v',(v' = .slice (some ⟨g,o+1,none⟩) (N - 1) (cap - 1)∨(v' = .slice (some ⟨g,o,none⟩) 0 0∧cap - 1=0))→EnA w0 (w.setCell ⟨B.eb,3,none⟩ v') B C { z with v:=v',L:=l } k p j∧QTo w (z.own B) (w.setCell ⟨B.eb,3,none⟩ v') (EnG.own B { z with v:=v',L:=l })):=Lib.hid (fun v' hv'=>h.tail hL hv hN v' hv')
set_option maxHeartbeats 8000000 in
set_option maxRecDepth 100000 in
theorem dstep_any {w0 w:World} {B:EnB} {C:Nat} {z:EnG} {k p j:Nat} (h:EnA w0 w B C z k p j) (hk:k≤190) (hp:p≤100) (hj:j≤6000) (now:Int) (h0:0≤now) (h1:now≤1099511627776) (hhd:(z.hd:Int)≤1099511627776)
 (hX:∀ a l,z.L=a :: l→(Lit.int .i64 a).wf=true∧(stP z.M a=1→∃ r∈RS z,a=(r.id:Int)∧r.m.kind=2)) :
 Calls Tryz.prog 17 #[.pointer (some ⟨B.eb,0,none⟩),.int .i64 now] w (DStepTo w0 w B C z k p j now):=by
 obtain ⟨_,_,_,c3,_⟩:=h.i.cells
 have HM:=Lib.hid (dmade_any h.i)
 cases hL:z.L with
 | nil=>
  have HL:=Lib.hid hL
  obtain ⟨va,vc,hv⟩:=h.i.row.slice
  rw [hL] at hv
  rw [hv] at c3
  dsimp only [List.length_nil] at c3
  by_cases hlt:(z.hd:Int)<now
  ·have hn:=h.n
   have hP:=h.P
   have hcap:=h.cap
   have hw:=h.wl
   have HR:=Lib.hid (dhear_on h.i (by omega) now hlt (by omega) (by rw [hcap];omega) (by omega))
   have HE:Hid (∀ w1 z',EnI w0 w1 B z'→HearE z z'→EnA w0 w1 B C z' k p (j+1)):=Lib.hid (fun w1 z' hi he=>by
    have hpl:=part_sum z.ws (z.hd+1)
    have hl0:z.L.length=0:=by rw [hL];rfl
    have hw':z'.ws.length+z'.L.length≤p:=by
     rw [he.ws,he.L,List.length_append]
     unfold idsL
     rw [List.length_map]
     omega
    have hrl:(RS z').length≤k:=by
     unfold RS
     rw [he.x]
     exact h.rl
    exact { i:=hi,i0:=(by rw [he.x];exact h.i0),rl:=hrl,ll:=(by rw [he.x];exact h.ll),xn:=(by rw [he.x];exact h.xn),ok:=(by rw [he.x];exact h.ok),len:=(by rw [he.x];exact h.len),xcap:=(by rw [he.x];exact h.xcap),xsz:=(by rw [he.x];exact h.xsz),cap:=(by rw [he.cap];exact h.cap),n:=(by rw [he.n];omega),P:=(by rw [he.P];omega),wl:=hw',ml:=(by rw [he.M];exact h.ml)})
   clear h hv hL hn hP hcap hw hX
   go_enter Tryz.func17,Tryz.ntmps17
   go_wp2_with fail
   refine HM.out.mono ?_
   rintro e w1 ⟨rfl,rfl⟩
   go_wp2_with fail
   refine HR.out.mono ?_
   rintro e w1 ⟨rfl,z',a1,a2,a3⟩
   have HF:=Lib.hid (And.intro (HE.out w1 z' a1 a3) (And.intro a2 a3))
   clear a1 a2 a3
   go_wp2_with fail
   go_ret2
   exact .inr (.inl ⟨HL.out,hlt,rfl,z',HF.out.1,HF.out.2.1,HF.out.2.2⟩)
  ·have HR:=Lib.hid (dhear_off h.i now (by omega) (by omega))
   have hle:now≤z.hd:=by omega
   clear h hv hL hX
   go_enter Tryz.func17,Tryz.ntmps17
   go_wp2_with fail
   refine HM.out.mono ?_
   rintro e w1 ⟨rfl,rfl⟩
   go_wp2_with fail
   refine HR.out.mono ?_
   rintro e w1 ⟨rfl,a1⟩
   have HF:=Lib.hid a1
   clear a1
   go_wp2_with fail
   go_ret2
   exact .inl ⟨HL.out,hle,rfl,HF.out⟩
 | cons a l=>
  obtain ⟨haw,har⟩:=hX a l hL
  obtain ⟨g,o,N,cap,hv,hN,hNc,hcm,hca⟩:=h.i.head hL
  rw [hv] at c3
  have hN1:1≤N:=by omega
  have hnn:((N:Int) == 0)=false:=by simp;omega
  have HN:=Lib.hid hN
  have HV:=Lib.hid hv
  have HL:=Lib.hid hL
  unfold maxLen at hcm
  by_cases hs:stP z.M a=1
  ·obtain ⟨r,hr,rfl,hkd⟩:=har hs
   have HB:=Lib.hid (dbring_on h hk hr hkd hs now h0 h1)
   have HRR:=Lib.hid (And.intro hr (And.intro hkd hs))
   obtain ⟨rid,hrid⟩:∃ x:Int,x=(r.id:Int):=⟨_,rfl⟩
   rw [←hrid] at HB hca
   have HRI:=Lib.hid hrid
   clear h hX haw har hL hv hN hs hr hkd hrid
   go_enter Tryz.func17,Tryz.ntmps17
   go_wp2_with fail
   refine HM.out.mono ?_
   rintro e w1 ⟨rfl,rfl⟩
   go_wp2_with fail
   refine HB.out.mono ?_
   rintro e w2 (⟨rfl,hcc,hc2⟩|⟨bs,x',rfl,p1,hA2,hq2,p2,p3,p4,p5,p6⟩)
   ·have HF:=Lib.hid (And.intro hcc hc2)
    clear hcc hc2 hca c3
    go_wp2_with fail
    go_ret2
    refine .inr (.inr (.inr (.inl ⟨r,l,HL.out,HRR.out.1,HRR.out.2.1,HRR.out.2.2,rfl,HF.out.1,HF.out.2⟩)))
   ·obtain ⟨_,_,_,d3,d3f⟩:=hA2.i.cells
    have f3:=d3f 3
    dsimp only at d3
    rw [HV.out] at d3
    have HT:=step_cut hA2 (a:=(r.id:Int)) (l:=l) (by dsimp only;exact HL.out) (g:=g) (o:=o) (N:=N) (cap:=cap) HV.out HN.out
    have HP:=Lib.hid (And.intro p1 (And.intro p2 (And.intro p3 (And.intro p4 (And.intro p5 p6)))))
    have HQ:=Lib.hid hq2
    clear hA2 hq2 p1 p2 p3 p4 p5 p6 hca c3 d3f
    go_wp2_with fail
    ·go_ret2
     obtain ⟨t1,t2⟩:=HT.out (.slice (some ⟨g,o,none⟩) (N - 1) 0) (.inr ⟨by rw [show N - 1=0 by omega],by omega⟩)
     exact .inr (.inr (.inr (.inr ⟨r,l,bs,x',_,HL.out,HRR.out.1,HRR.out.2.1,HRR.out.2.2,rfl,HP.out.1,t1,HQ.out.trans t2,HP.out.2.1,HP.out.2.2.1,HP.out.2.2.2.1,HP.out.2.2.2.2.1,HP.out.2.2.2.2.2⟩)))
    ·go_ret2
     obtain ⟨t1,t2⟩:=HT.out (.slice (some ⟨g,o+1,none⟩) (N - 1) (cap - 1)) (.inl rfl)
     exact .inr (.inr (.inr (.inr ⟨r,l,bs,x',_,HL.out,HRR.out.1,HRR.out.2.1,HRR.out.2.2,rfl,HP.out.1,t1,HQ.out.trans t2,HP.out.2.1,HP.out.2.2.1,HP.out.2.2.2.1,HP.out.2.2.2.2.1,HP.out.2.2.2.2.2⟩)))
  ·have HB:=Lib.hid (dbring_gone h.i a now haw hs)
   have HT:=step_cut h hL hv hN
   have f3:=h.i.cells.2.2.2.2 3
   have HS:=Lib.hid hs
   clear h hX haw har hL hv hN hs
   go_enter Tryz.func17,Tryz.ntmps17
   go_wp2_with fail
   refine HM.out.mono ?_
   rintro e w1 ⟨rfl,rfl⟩
   go_wp2_with fail
   refine HB.out.mono ?_
   rintro e w2 ⟨rfl,rfl⟩
   go_wp2_with fail
   ·go_ret2
    obtain ⟨t1,t2⟩:=HT.out (.slice (some ⟨g,o,none⟩) (N - 1) 0) (.inr ⟨by rw [show N - 1=0 by omega],by omega⟩)
    exact .inr (.inr (.inl ⟨a,l,_,HL.out,HS.out,rfl,t1,t2⟩))
   ·go_ret2
    obtain ⟨t1,t2⟩:=HT.out (.slice (some ⟨g,o+1,none⟩) (N - 1) (cap - 1)) (.inl rfl)
    exact .inr (.inr (.inl ⟨a,l,_,HL.out,HS.out,rfl,t1,t2⟩))
structure SentG where
 r:RcM
 due:Int
 at_:Int
 gone:Bool
def SentG.st (s:SentG):Int:=if s.gone=true then 3 else if 0≤s.at_ then 2 else 1
structure DqInv (rs:List RcM) (M:PM) (ws:WL) (hd:Nat) (L:List Int) (all:List SentG) (now:Int):Prop where
 good:GoodP M
 sorted:all.Pairwise (fun a b=>a.r.id<b.r.id)
 on:∀ s∈all,s.r∈rs∧s.r.m.kind=2
 st:∀ s∈all,stP M (s.r.id:Int)=s.st
 atg:∀ s∈all,s.gone=true→s.at_<0
 wsm:∀ p∈ws,∃ s∈all,s.r.id=p.2∧s.due=(p.1:Int)
 lm:∀ a∈L,∃ s∈all,(s.r.id:Int)=a∧s.due≤now
 pend:∀ s∈all,s.st=1→(∃ d:Nat,s.due=(d:Int)∧(d,s.r.id)∈ws)∨(s.r.id:Int)∈L
 hdn:(hd:Int)≤now
 keys:(M.map (·.1)).Perm (all.map fun s=>(s.r.id:Int))
 cnt:rs.length=all.length+(all.filter fun s=>decide (0≤s.at_)).length
variable {rs:List RcM} {M:PM} {ws:WL} {hd:Nat} {L:List Int} {all:List SentG} {now:Int}
theorem DqInv.nil:DqInv [] [] [] 0 [] [] 0:=⟨GoodP.nil,List.Pairwise.nil,(fun s h=>by cases h),(fun s h=>by cases h),(fun s h=>by cases h),(fun s h=>by cases h),(fun s h=>by cases h),(fun s h=>by cases h),Int.le_refl _,List.Perm.nil,rfl⟩
theorem DqInv.uniq (h:DqInv rs M ws hd L all now) {s t:SentG} (hs:s∈all) (ht:t∈all) (e:s.r.id=t.r.id):s=t:=by
 have hp:=h.sorted
 clear h
 induction all with
 | nil=>cases hs
 | cons x l ih=>
  obtain ⟨h1,h2⟩:=List.pairwise_cons.1 hp
  rcases List.mem_cons.1 hs with e1|hs1
  ·rcases List.mem_cons.1 ht with e2|ht1
   ·rw [e1,e2]
   ·have:=h1 t ht1
    rw [e1] at e
    omega
  ·rcases List.mem_cons.1 ht with e2|ht1
   ·have:=h1 s hs1
    rw [e2] at e
    omega
   ·exact ih hs1 ht1 h2
theorem DqInv.later (h:DqInv rs M ws hd L all now) {now':Int} (hn:now≤now'):DqInv rs M ws hd L all now':=
 { h with lm:=fun a ha=>by obtain ⟨s,q1,q2,q3⟩:=h.lm a ha;exact ⟨s,q1,q2,by omega⟩,hdn:=by have:=h.hdn;omega }
theorem DqInv.next (h:DqInv rs M ws hd [] all now) (hn:(hd:Int)<now):DqInv rs M (restL ws (hd+1)) (hd+1) (idsL (comeL ws (hd+1))) all now:=
 { h with
  wsm:=fun p hp=>h.wsm p (List.mem_filter.1 hp).1
  lm:=fun a ha=>by
   obtain ⟨p,hp,rfl⟩:=List.mem_map.1 ha
   obtain ⟨h1,h2⟩:=List.mem_filter.1 hp
   obtain ⟨s,q1,q2,q3⟩:=h.wsm p h1
   have h2:p.1=hd+1:=by simpa using h2
   exact ⟨s,q1,by omega,by omega⟩
  pend:=fun s hs hst=>by
   rcases h.pend s hs hst with ⟨d,a,b⟩|a
   ·by_cases hx:d=hd+1
    ·refine .inr (List.mem_map.2 ⟨(d,s.r.id),List.mem_filter.2 ⟨b,?_⟩,rfl⟩)
     simp [hx]
    ·exact .inl ⟨d,a,List.mem_filter.2 ⟨b,by simp [hx]⟩⟩
   ·cases a
  hdn:=by omega }
theorem DqInv.drop {a:Int} (h:DqInv rs M ws hd (a :: L) all now) (ha:stP M a≠1):DqInv rs M ws hd L all now:=
 { h with
  lm:=fun x hx=>h.lm x (List.mem_cons_of_mem _ hx)
  pend:=fun s hs hst=>by
   rcases h.pend s hs hst with b|b
   ·exact .inl b
   ·rcases List.mem_cons.1 b with e|b
    ·have:=h.st s hs
     rw [e] at this
     omega
    ·exact .inr b }
def dlvS (id:Nat) (now:Int) (s:SentG):SentG:=if s.r.id=id then { s with at_:=now } else s
theorem dlvS_id (id:Nat) (now:Int) (s:SentG):(dlvS id now s).r=s.r∧(dlvS id now s).due=s.due∧(dlvS id now s).gone=s.gone:=by
 unfold dlvS;split<;>exact ⟨rfl,rfl,rfl⟩
theorem map_ids {f:SentG→SentG} (hf:∀ s,(f s).r=s.r) (l:List SentG):(l.map f).map (fun s=>(s.r.id:Int))=l.map fun s=>(s.r.id:Int):=by
 rw [List.map_map]
 refine List.map_congr_left fun s _=>?_
 show ((f s).r.id:Int)=_
 rw [hf]
theorem map_sorted {f:SentG→SentG} (hf:∀ s,(f s).r=s.r) {l:List SentG} (h:l.Pairwise (fun a b=>a.r.id<b.r.id)):(l.map f).Pairwise (fun a b=>a.r.id<b.r.id):=by
 rw [List.pairwise_map]
 exact h.imp fun {a b} q=>by rw [hf,hf];exact q
theorem cnt_dlv {id:Nat} {now:Int} (hn:0≤now):∀ {l:List SentG} (h:l.Pairwise (fun a b=>a.r.id<b.r.id)) {s:SentG} (hs:s∈l) (hid:s.r.id=id) (hat:s.at_<0),((l.map (dlvS id now)).filter fun s=>decide (0≤s.at_)).length=(l.filter fun s=>decide (0≤s.at_)).length+1
 | [],_,_,hs,_,_=>by cases hs
 | x :: l,h,s,hs,hid,hat=>by
  obtain ⟨h1,h2⟩:=List.pairwise_cons.1 h
  rw [List.map_cons,List.filter_cons,List.filter_cons]
  rcases List.mem_cons.1 hs with rfl|hs
  ·have e:l.map (dlvS id now)=l:=by
    conv=>rhs;rw [←List.map_id l]
    refine List.map_congr_left fun t ht=>?_
    have:=h1 t ht
    unfold dlvS
    rw [if_neg (by omega)]
    rfl
   have e2:dlvS id now s = { s with at_:=now }:=by unfold dlvS;rw [if_pos hid]
   rw [e,e2,if_pos (by simpa using hn),if_neg (by simp;omega),List.length_cons]
  ·have hne:¬ x.r.id=id:=by have:=h1 s hs;omega
   have e2:dlvS id now x=x:=by unfold dlvS;rw [if_neg hne]
   have ih:=cnt_dlv hn h2 hs hid hat
   rw [e2]
   by_cases hx:decide (0≤x.at_)=true
   ·rw [if_pos hx,if_pos hx,List.length_cons,List.length_cons,ih]
   ·rw [if_neg hx,if_neg hx,ih]
theorem DqInv.came {s:SentG} (h:DqInv rs M ws hd ((s.r.id:Int) :: L) all now) (hs:s∈all) (hst:s.st=1) (hn:0≤now) (rd:RcM):DqInv (rs ++ [rd]) (putP M (s.r.id:Int) (2,0)) ws hd L (all.map (dlvS s.r.id now)) now:=by
 have hid:=fun t=>(dlvS_id s.r.id now t).1
 have hg1:s.gone=false:=by
  unfold SentG.st at hst
  cases hg:s.gone with
  | false=>rfl
  | true=>rw [hg] at hst;simp at hst
 have hat:s.at_<0:=by
  unfold SentG.st at hst
  rw [hg1] at hst
  by_cases hx:0≤s.at_
  ·simp [hx] at hst
  ·omega
 have hstM:stP M (s.r.id:Int)=1:=(h.st s hs).trans hst
 have hst':∀ t∈all,(dlvS s.r.id now t).st=if t.r.id=s.r.id then 2 else t.st:=fun t ht=>by
  by_cases e:t.r.id=s.r.id
  ·have:=h.uniq ht hs e
   subst this
   rw [if_pos rfl]
   unfold dlvS SentG.st
   rw [if_pos rfl]
   dsimp only
   rw [hg1,if_neg (by decide),if_pos hn]
  ·rw [if_neg e]
   unfold dlvS
   rw [if_neg e]
 refine ⟨h.good.put (by decide) (fun _=>rfl),map_sorted hid h.sorted,fun t ht=>?_,fun t ht=>?_,fun t ht hg=>?_,fun p hp=>?_,fun a ha=>?_,fun t ht hx=>?_,h.hdn,?_,?_⟩
 ·obtain ⟨u,hu,rfl⟩:=List.mem_map.1 ht
  rw [hid]
  exact ⟨List.mem_append_left _ (h.on u hu).1,(h.on u hu).2⟩
 ·obtain ⟨u,hu,rfl⟩:=List.mem_map.1 ht
  rw [hid,hst' u hu,stP_put]
  by_cases e:u.r.id=s.r.id
  ·rw [if_pos (by rw [e]),if_pos e]
  ·rw [if_neg (by omega),if_neg e]
   exact h.st u hu
 ·obtain ⟨u,hu,rfl⟩:=List.mem_map.1 ht
  rw [(dlvS_id s.r.id now u).2.2] at hg
  by_cases e:u.r.id=s.r.id
  ·have:=h.uniq hu hs e
   subst this
   rw [hg1] at hg;cases hg
  ·unfold dlvS
   rw [if_neg e]
   exact h.atg u hu hg
 ·obtain ⟨u,hu,q1,q2⟩:=h.wsm p hp
  exact ⟨_,List.mem_map_of_mem hu,by rw [hid];exact q1,by rw [(dlvS_id s.r.id now u).2.1];exact q2⟩
 ·obtain ⟨u,hu,q1,q2⟩:=h.lm a (List.mem_cons_of_mem _ ha)
  exact ⟨_,List.mem_map_of_mem hu,by rw [hid];exact q1,by rw [(dlvS_id s.r.id now u).2.1];exact q2⟩
 ·obtain ⟨u,hu,rfl⟩:=List.mem_map.1 ht
  rw [hst' u hu] at hx
  by_cases e:u.r.id=s.r.id
  ·rw [if_pos e] at hx;exact absurd hx (by decide)
  ·rw [if_neg e] at hx
   rw [hid,(dlvS_id s.r.id now u).2.1]
   rcases h.pend u hu hx with b|b
   ·exact .inl b
   ·rcases List.mem_cons.1 b with e2|b
    ·omega
    ·exact .inr b
 ·rw [map_ids hid]
  exact (putP_keys h.good (by omega) _).trans h.keys
 ·rw [List.length_append,List.length_map,cnt_dlv hn h.sorted hs rfl hat,h.cnt,List.length_singleton]
  omega
theorem DqInv.add (h:DqInv rs M ws hd L all now) {r:RcM} (hk:r.m.kind=2) (hid:∀ x∈rs,x.id<r.id) (due:Int) (ws':WL) (L':List Int) (h1:∀ p∈ws',p∈ws∨((p.1:Int)=due∧p.2=r.id)) (h2:∀ a∈L',a∈L∨(a=(r.id:Int)∧due≤now)) (h3:∀ p∈ws,p∈ws') (h4:∀ a∈L,a∈L')
 (h5:(∃ d:Nat,due=(d:Int)∧(d,r.id)∈ws')∨(r.id:Int)∈L'):DqInv (rs ++ [r]) (noteP M (r.id:Int) 2 r.m.due r.m.ref).2 ws' hd L' (all ++ [⟨r,due,-1,false⟩]) now:=by
 have hfresh:stP M (r.id:Int)=0:=stP_absent (fun hx=>by
  have:=h.keys.subset hx
  obtain ⟨y,hy,e⟩:=List.mem_map.1 this
  have:=hid y.r (h.on y hy).1
  omega)
 have e:(noteP M (r.id:Int) 2 r.m.due r.m.ref).2=putP M (r.id:Int) (1,r.m.due):=note_new (Int.natCast_nonneg _) hfresh
 have hlt:∀ s∈all,s.r.id<r.id:=fun s hs=>hid _ (h.on s hs).1
 rw [e]
 refine ⟨h.good.put (by simp) (fun q=>absurd rfl q),?_,fun t ht=>?_,fun t ht=>?_,fun t ht hg=>?_,fun p hp=>?_,fun a ha=>?_,fun t ht hx=>?_,h.hdn,?_,?_⟩
 ·rw [List.pairwise_append]
  exact ⟨h.sorted,List.pairwise_singleton _ _,fun a ha b hb=>by rw [List.mem_singleton.1 hb];exact hlt a ha⟩
 ·rcases List.mem_append.1 ht with a|a
  ·exact ⟨List.mem_append_left _ (h.on t a).1,(h.on t a).2⟩
  ·rw [List.mem_singleton.1 a]
   exact ⟨List.mem_append_right _ (List.mem_singleton.2 rfl),hk⟩
 ·rcases List.mem_append.1 ht with a|a
  ·rw [stP_put,if_neg (by have:=hlt t a;omega)]
   exact h.st t a
  ·rw [List.mem_singleton.1 a,stP_put,if_pos rfl]
   rfl
 ·rcases List.mem_append.1 ht with a|a
  ·exact h.atg t a hg
  ·rw [List.mem_singleton.1 a] at hg;cases hg
 ·rcases h1 p hp with a|⟨a,b⟩
  ·obtain ⟨s,q1,q2⟩:=h.wsm p a
   exact ⟨s,List.mem_append_left _ q1,q2⟩
  ·exact ⟨_,List.mem_append_right _ (List.mem_singleton.2 rfl),b.symm,a.symm⟩
 ·rcases h2 a ha with q|⟨q,b⟩
  ·obtain ⟨s,q1,q2⟩:=h.lm a q
   exact ⟨s,List.mem_append_left _ q1,q2⟩
  ·exact ⟨_,List.mem_append_right _ (List.mem_singleton.2 rfl),q.symm,b⟩
 ·rcases List.mem_append.1 ht with a|a
  ·rcases h.pend t a hx with ⟨d,q1,q2⟩|q
   ·exact .inl ⟨d,q1,h3 _ q2⟩
   ·exact .inr (h4 _ q)
  ·rw [List.mem_singleton.1 a]
   exact h5
 ·unfold putP
  rw [dropK_none (h.good.absent hfresh),List.map_append,List.map_append]
  exact h.keys.append (List.Perm.refl _)
 ·rw [List.length_append,List.length_append,List.filter_append,List.length_append,h.cnt]
  simp
  omega
theorem DqInv.cntP (h:DqInv rs M ws hd L all now) (x:Int):cntP M x=(all.filter fun s=>decide (s.st=x)).length:=by
 have e1:Go.Proofs.YtajmeimjaapagaaGreatDoor.cntP M x=((M.map (·.1)).filter fun a=>decide (stP M a=x)).length:=by
  unfold Go.Proofs.YtajmeimjaapagaaGreatDoor.cntP
  rw [List.filter_map,List.length_map]
  congr 1
  refine List.filter_congr fun p hp=>?_
  have:getK M p.1=some p.2:=getK_of h.good.nodup hp
  simp [stP,this]
 rw [e1,(h.keys.filter _).length_eq,List.filter_map,List.length_map]
 congr 1
 refine List.filter_congr fun s hs=>?_
 show decide (stP M (s.r.id:Int)=x)=_
 rw [h.st s hs]
structure SchI (w0 w:World) (B:EnB) (C:Nat) (z:EnG) (k p:Nat) (all:List SentG) (now:Int):Prop where
 a:EnA w0 w B C z k p z.hd
 v:DqInv (RS z) z.M z.ws z.hd z.L all now
def muD (z:EnG) (now:Int):Nat:=(now.toNat - z.hd)+z.L.length+z.ws.length
theorem uniq_id:∀ {l:List RcM} (h:l.Pairwise (fun a b=>a.id+a.len≤b.id)) (hp:∀ r∈l,0<r.len) {a b:RcM} (ha:a∈l) (hb:b∈l) (e:a.id=b.id),a=b
 | [],_,_,_,_,ha,_,_=>by cases ha
 | x :: l,h,hp,a,b,ha,hb,e=>by
  obtain ⟨h1,h2⟩:=List.pairwise_cons.1 h
  have hx:=hp x (List.mem_cons_self ..)
  rcases List.mem_cons.1 ha with ea|ha1
  ·rcases List.mem_cons.1 hb with eb|hb1
   ·rw [ea,eb]
   ·have:=h1 b hb1
    rw [ea] at e
    omega
  ·rcases List.mem_cons.1 hb with eb|hb1
   ·have:=h1 a ha1
    rw [eb] at e
    omega
   ·exact uniq_id h2 (fun r hr=>hp r (List.mem_cons_of_mem _ hr)) ha1 hb1 e
theorem EnA.uniq {w0 w:World} {B:EnB} {C:Nat} {z:EnG} {k p j:Nat} (h:EnA w0 w B C z k p j) {a b:RcM} (ha:a∈RS z) (hb:b∈RS z) (e:a.id=b.id):a=b:=
 uniq_id (recsI_sorted h.i.tp.la') (fun r hr=>by have:=(h.recs r hr).1;omega) ha hb e
def TurnTo (z z':EnG):Prop:=(z.L=[]∧z'.hd=z.hd+1∧z'.L=idsL (comeL z.ws (z.hd+1))∧z'.ws=restL z.ws (z.hd+1))∨(∃ a,z.L=a :: z'.L∧z'.hd=z.hd∧z'.ws=z.ws∧stP z.M a≠1)
structure CameTo (z z':EnG) (s:SentG) (now:Int) (bs:List UInt8) (id:Nat):Prop where
 L:z.L=(s.r.id:Int) :: z'.L
 hd:z'.hd=z.hd
 ws:z'.ws=z.ws
 put:putO (dlvM s.r.m s.r.id now)=some bs
 rs:RS z'=RS z ++ [⟨id,bs.length,dlvM s.r.m s.r.id now⟩]
 lt:∀ q∈RS z,q.id<id
 le:(bytesI z.x.l).length≤id
 end_:id+bs.length=(bytesI z'.x.l).length
 small:id≤1000000
 mu:muD z' now+1=muD z now
def StepI (w0 w:World) (B:EnB) (C:Nat) (z:EnG) (k p:Nat) (all:List SentG) (now:Int) (e:Ending) (w':World):Prop:=
 (z.L=[]∧now≤z.hd∧e = .returned (.tuple #[.bool false,.int .i64 0])∧Chg (fun _=>False) w w') ∨
 (∃ z',e = .returned (.tuple #[.bool true,.int .i64 0])∧SchI w0 w' B C z' k p all now∧QTo w (z.own B) w' (z'.own B)∧z'.x=z.x∧z'.M=z.M∧muD z' now+1=muD z now∧TurnTo z z') ∨
 (z.L≠[]∧e = .returned (.tuple #[.bool false,.int .i64 7])∧C<1351*k+1351∧Chg (fun _=>False) w w') ∨
 (∃ z' s bs id,s∈all∧s.st=1∧s.due≤now∧e = .returned (.tuple #[.bool true,.int .i64 0])∧SchI w0 w' B C z' (k+1) p (all.map (dlvS s.r.id now)) now∧QTo w (z.own B) w' (z'.own B)∧CameTo z z' s now bs id)
theorem SchI.step {w0 w:World} {B:EnB} {C:Nat} {z:EnG} {k p:Nat} {all:List SentG} {now:Int} (h:SchI w0 w B C z k p all now) (hk:k≤190) (hp:p≤100) (h0:0≤now) (h1:now≤6000) :
 Calls Tryz.prog 17 #[.pointer (some ⟨B.eb,0,none⟩),.int .i64 now] w (StepI w0 w B C z k p all now):=by
 have hhd:=h.v.hdn
 have hX:∀ a l,z.L=a :: l→(Lit.int .i64 a).wf=true∧(stP z.M a=1→∃ r∈RS z,a=(r.id:Int)∧r.m.kind=2):=fun a l hL=>by
  obtain ⟨s,q1,q2,q3⟩:=h.v.lm a (by rw [hL];exact List.mem_cons_self ..)
  have hr:=h.v.on s q1
  have hb:=h.a.recs s.r hr.1
  have hl:=h.a.len
  exact ⟨by rw [←q2];exact twf_nat _ (by omega),fun _=>⟨s.r,hr.1,q2.symm,hr.2⟩⟩
 refine (dstep_any h.a hk hp (by omega) now h0 (by omega) (by omega) hX).mono ?_
 rintro e w' (⟨a1,a2,a3,a4⟩|⟨a1,a2,rfl,z',a3,a4,a5⟩|⟨a,l,v',a1,a2,rfl,a3,a4⟩|⟨r,l,a1,a2,a3,a4,rfl,a5,a6⟩|⟨r,l,bs,x',v',a1,a2,a3,a4,rfl,a5,a6,a7,a8,a9,a10,a11,a12⟩)
 ·exact .inl ⟨a1,a2,a3,a4⟩
 ·have hv:=h.v
  rw [a1] at hv
  have hx:RS z'=RS z:=by unfold RS;rw [a5.x]
  have hz:z'.L=idsL (comeL z.ws (z.hd+1)):=by rw [a5.L,a1,List.nil_append]
  refine .inr (.inl ⟨z',rfl,⟨by rw [a5.hd];exact a3,?_⟩,a4,a5.x,a5.M,?_,.inl ⟨a1,a5.hd,hz,a5.ws⟩⟩)
  ·rw [hx,a5.M,a5.ws,a5.hd,hz]
   exact hv.next a2
  ·have hs:=part_sum z.ws (z.hd+1)
   unfold muD
   rw [a5.hd,a5.ws,hz,a1]
   unfold idsL
   rw [List.length_map,List.length_nil]
   omega
 ·have hv:=h.v
  rw [a1] at hv
  refine .inr (.inl ⟨{ z with v:=v',L:=l },rfl,⟨a3,hv.drop a2⟩,a4,rfl,rfl,?_,.inr ⟨a,a1,rfl,rfl,a2⟩⟩)
  unfold muD
  rw [a1,List.length_cons]
  dsimp only
  omega
 ·exact .inr (.inr (.inl ⟨by rw [a1];exact List.cons_ne_nil _ _,rfl,a5,a6⟩))
 ·have hv:=h.v
  rw [a1] at hv
  obtain ⟨s,q1,q2,q3⟩:=hv.lm _ (List.mem_cons_self ..)
  have hr:=hv.on s q1
  have hsr:r=s.r:=h.a.uniq a2 hr.1 (by omega)
  subst hsr
  have hst:s.st=1:=by rw [←hv.st s q1];exact a4
  refine .inr (.inr (.inr ⟨{ z with x:=x',M:=putP z.M (s.r.id:Int) (2,0),v:=v',L:=l },s,bs,_,q1,hst,q3,rfl,⟨a6,?_⟩,a7,⟨a1,rfl,rfl,a5,a8,a9,a10,a11,a12,?_⟩⟩))
  ·have:=hv.came q1 hst h0 ⟨idL z.x.l bs,bs.length,dlvM s.r.m s.r.id now⟩
   rw [←a8] at this
   exact this
  ·unfold muD
   rw [a1,List.length_cons]
   dsimp only
   omega
theorem SchI.new {w0 w w':World} {B:EnB} {C:Nat} {z:EnG} {k p:Nat} {all:List SentG} {now:Int} (h:SchI w0 w B C z k p all now) (hc:Chg (fun _=>False) w w'):SchI w0 w' B C z k p all now:=⟨h.a.new hc,h.v⟩
theorem SchI.away {S:Nat→Prop} {w0 w w':World} {B:EnB} {C:Nat} {z:EnG} {k p:Nat} {all:List SentG} {now:Int} (h:SchI w0 w B C z k p all now) (hc:Chg S w w') (hS:∀ q,z.own B q→¬ S q) (hl:∀ q,S q→w0.heap.size≤q):SchI w0 w' B C z k p all now:=⟨h.a.away hc hS hl,h.v⟩
theorem SchI.busy {w0 w:World} {B:EnB} {C:Nat} {z:EnG} {k p:Nat} {all:List SentG} {now:Int} (h:SchI w0 w B C z k p all now) (t:Int):Calls Tryz.prog 20 #[.pointer (some ⟨B.eb,0,none⟩),.int .i64 t] w fun e w'=>e = .returned (.bool (!z.L.isEmpty || decide ((z.hd:Int)<t)))∧w=w':=h.a.busy t
theorem not_busy {z:EnG} {now:Int} (h:(!z.L.isEmpty || decide ((z.hd:Int)<now))=false):z.L=[]∧now≤z.hd:=by
 rw [Bool.or_eq_false_iff] at h
 obtain ⟨h1,h2⟩:=h
 constructor
 ·cases hL:z.L with
  | nil=>rfl
  | cons a l=>rw [hL] at h1;cases h1
 ·have:=of_decide_eq_false h2
  omega
theorem TapeG.base {w0 w1 w:World} {tb:Nat} {t:TapeM} {g:Gh} {st:St} {m:RowM} (h:TapeG w1 w tb t g st m) (hc:Chg (fun _=>False) w0 w1) (ht:Tab10 w0):TapeG w0 w tb t g st m:=by
 have hs:=hc.size
 refine ⟨⟨h.row.disk,h.row.row,h.row.out,hc.trans h.row.chg (fun _ _ x=>x),fun k hk=>Nat.le_trans hs (h.row.low k hk),Nat.le_trans hs h.row.lowb,ht⟩,⟨h.tape.at_,h.tape.tab,h.tape.map,?_,h.tape.apart,fun q hq=>Nat.le_trans hs (h.tape.low q hq)⟩,h.out⟩
 rcases h.tape.own with a|⟨g1,o,cap,a1,a2,a3⟩
 ·exact .inl a
 ·exact .inr ⟨g1,o,cap,a1,Nat.le_trans hs a2,a3⟩
theorem tapeI_new {w0 w:World} {tb:Nat} {t:TapeM} {g:Gh} {st:St} {m:RowM} (h:TapeG w0 w tb t g st m) (h1:t.ids=[]) (h2:t.M=[]) (hh:m.head=tH) (hk:RowC 0 m st 1024 0 0 []):TapeI w0 w tb t g st m 0 0 0 []:=
 ⟨h,hk,hh,trivial,⟨h1,fun x hx=>(by cases hx),fun k _=>(by rw [h2];rfl),fun x hx=>(by cases hx),by rw [h2];exact Nat.le_refl _⟩⟩
theorem TJ.of_new {w1 w:World} {F:Nat→Prop} {lb hd cap:Nat} (h:LgS w1 w F lb 3 (hd:Int) 0 cap noC):TJ w1 w F lb 3 hd 0 cap []:=⟨⟨noC,0,h,RelC.none,Nat.le_refl _⟩,fun p hp=>by cases hp⟩
theorem TJ.base {w0 w1 w:World} {F:Nat→Prop} {lb n hd P cap:Nat} {ws:WL} (h:TJ w1 w F lb n hd P cap ws) (hc:Chg (fun _=>False) w0 w1):TJ w0 w F lb n hd P cap ws:=by
 obtain ⟨C,cnt,⟨wb,g,st,L,ms,e,hC,h1,h2⟩,h3,h4⟩:=h.ex
 have hs:=hc.size
 have hw:=hC.i.wh
 exact ⟨⟨C,cnt,⟨wb,g,st,L,ms,e,⟨⟨⟨hw.disk,hc.trans hw.chg (fun _ _ x=>x),fun q hq=>Nat.le_trans hs (hw.glow q hq),hw.ease,hw.cell,Nat.le_trans hs hw.low,hw.out,hw.file,hw.len,hw.ok⟩,hC.i.cell,Nat.le_trans hs hC.i.low,hC.i.out,hC.i.ne,hC.i.file,hC.i.ok,hC.i.size⟩,hC.chain⟩,h1,h2⟩,h3,h4⟩,h.later⟩
def EMadeTo (w:World) (C hand:Nat) (e:Ending) (w':World):Prop:=∃ B z,e = .returned (.tuple #[.agg #[.pointer (some ⟨B.tb,0,none⟩),.pointer (some ⟨B.sb,0,none⟩),.pointer (some ⟨B.lb,0,none⟩),.pointer (some ⟨B.eb,0,none⟩)],.bool true])∧EnA w w' B C z 0 0 0∧z.x.l=[]∧z.M=[]∧z.hd=hand∧z.ws=[]∧z.L=[]
theorem emade_all {w W0 w3 w5 w6 w7:World} {tb sb mb lb hand C:Nat} {F:Nat→Prop} {t:TapeM} {g:Gh} {st:St} {m:RowM} (ht:Tab10 w) (hc0:Chg (fun _=>False) w W0) (hc3:Chg (fun _=>False) W0 w3)
 (hT:TapeG W0 w3 tb t g st m) (t1:t.ids=[]) (t2:t.M=[]) (t3:m.head=tH) (t5:RowC 0 m st 1024 0 0 []) (t6:st.cap=C) (t7:st.size=0)
 (hl:LgS w3 w5 F lb 3 (hand:Int) 0 4194304 noC) (hp:PeI w6 sb mb []) (hb6:Below w5.heap.size w5 w6) (hsb:w5.heap.size≤sb) (hmb:w5.heap.size≤mb)
 (h7:w7=w6.alloc (.cells (enqC ⟨0,tb,sb,0,lb⟩ (.slice none 0 0)) 85)) :
 ∃ z,(∀ q,z.own ⟨w6.heap.size,tb,sb,mb,lb⟩ q→W0.heap.size≤q)∧EnA w w7 ⟨w6.heap.size,tb,sb,mb,lb⟩ C z 0 0 0∧z.x.l=[]∧z.M=[]∧z.hd=hand∧z.ws=[]∧z.L=[]:=by
 have hT0:=hT.base hc0 ht
 have hown:∀ q,(q∈t.foot tb∨q=t.rb∨q∈g.fp)→W0.heap.size≤q∧q<w3.heap.size:=fun q hq=>by
  rcases hq with a|a|a
  ·exact ⟨hT.tape.low q a,hT.tape.lt q a⟩
  ·rw [a];exact ⟨hT.row.lowb,hT.row.row.lt⟩
  ·exact ⟨hT.row.low q a,hT.row.disk.lt q a⟩
 have hT3:TapeI w w3 tb t g st m 0 0 0 []:=tapeI_new hT0 t1 t2 t3 t5
 have hc5:Chg (fun _=>False) w3 w5:=Chg.of_below hl.below
 have hc6:Chg (fun _=>False) w5 w6:=Chg.of_below hb6
 have hc7:Chg (fun _=>False) w6 w7:=h7▸Chg.alloc _ (Chg.refl _ _) _
 have hT6:=TpI.new (x:=⟨t,g,st,m,0,0,0,[]⟩) (TpI.new (x:=⟨t,g,st,m,0,0,0,[]⟩) hT3 hc5) hc6
 have hw3:Chg (fun _=>False) w w3:=hc0.trans hc3 (fun _ _ x=>x)
 have hJ5:=(TJ.of_new hl).base hw3
 have hJ7:=(hJ5.new hc6).new hc7
 have hlow:=hl.low
 have s0:=hc0.size
 have s3:=hc3.size
 have s5:=hc5.size
 have s6:=hc6.size
 have hpl:=hp.lt
 have key:∀ i q,EnG.part ⟨w6.heap.size,tb,sb,mb,lb⟩ ⟨⟨t,g,st,m,0,0,0,[]⟩,[],F,3,hand,0,4194304,[],.slice none 0 0,[]⟩ i q→(i=0∧q=w6.heap.size)∨(i=1∧W0.heap.size≤q∧q<w3.heap.size)∨(i=2∧w5.heap.size≤q∧q<w6.heap.size)∨(i=3∧w3.heap.size≤q∧q<w5.heap.size):=fun i q hi=>by
  match i,hi with
  | 0,hi=>exact .inl ⟨rfl,hi⟩
  | 1,hi=>exact .inr (.inl ⟨rfl,hown q hi⟩)
  | 2,hi=>
   refine .inr (.inr (.inl ⟨rfl,?_⟩))
   rcases (show q=sb∨q=mb from hi) with a|a<;>omega
  | 3,hi=>exact .inr (.inr (.inr ⟨rfl,hlow q hi⟩))
  | 4,hi=>cases hi
 refine ⟨⟨⟨t,g,st,m,0,0,0,[]⟩,[],F,3,hand,0,4194304,[],.slice none 0 0,[]⟩,fun q hq=>?_,⟨⟨?_,?_,TpI.new (x:=⟨t,g,st,m,0,0,0,[]⟩) hT6 hc7,hp.new hc7,⟨?_,?_⟩,hJ7,ownI_nil _ _,fun i j hij q hi hj=>?_⟩,rfl,Nat.le_refl _,Nat.le_refl _,Nat.le_refl _,?_,Nat.le_refl _,t6,?_,rfl,Nat.le_refl _,Nat.le_refl _,Nat.le_refl _,Nat.le_refl _⟩,rfl,rfl,rfl,rfl,rfl⟩
 ·obtain ⟨i,hi⟩:=hq
  rcases key i q hi with a|a|a|a<;>omega
 ·show w7.heap[w6.heap.size]? = _
  rw [h7]
  exact heap_alloc_new w6 _
 ·show w.heap.size≤w6.heap.size
  omega
 ·show w.heap.size≤sb
  omega
 ·show w.heap.size≤mb
  omega
 ·have a:=key i q hi
  have b:=key j q hj
  omega
 ·show 0 % 1024≤1021
  decide
 ·show st.size≤0
  omega
set_option maxHeartbeats 4000000 in
set_option maxRecDepth 100000 in
theorem emade_any (w:World) (ht:Tab10 w) (C hand:Nat) (hC:C≤1048576) (hh:hand≤1000000):Calls Tryz.prog 8 #[.int .i64 (C:Int),.int .i64 (hand:Int)] w (EMadeTo w C hand):=by
 obtain ⟨W0,hW0⟩:∃ W,W=w.alloc (.cells #[.pointer none,.pointer none,.pointer none,.pointer none] 30):=⟨_,rfl⟩
 have hb0:Below w.heap.size w W0:=hW0▸(Below.refl _ _).alloc (Nat.le_refl _) _
 have hr0:W0.heap[w.heap.size]? = some (.cells #[.pointer none,.pointer none,.pointer none,.pointer none] 30 (0,0)):=hW0▸heap_alloc_new w _
 have hl0:w.heap.size<W0.heap.size:=(Array.getElem?_eq_some_iff.1 hr0).1
 have HW0:=Lib.hid hW0
 have HTB:=Lib.hid ht
 have HB0:Hid (Chg (fun _=>False) w W0):=Lib.hid (Chg.of_below hb0)
 have HR0:=Lib.hid hr0
 have HL0:=Lib.hid hl0
 have HN1:=Lib.hid (new_any C W0)
 have HCC:=Lib.hid hC
 have HHH:=Lib.hid hh
 obtain ⟨hv,hhv⟩:∃ x:Int,x=(hand:Int):=⟨_,rfl⟩
 rw [←hhv]
 have HHV:=Lib.hid hhv
 obtain ⟨cv,hcv⟩:∃ x:Int,x=(C:Int):=⟨_,rfl⟩
 rw [←hcv] at HN1 ⊢
 have HCV:=Lib.hid hcv
 clear hb0 ht hW0 hr0 hl0 hh hhv hC hcv
 go_enter Tryz.func8,Tryz.ntmps8
 go_upto_region 1 with fail
 rw [←HW0.out]
 go_wp2_with fail
 refine HN1.out.mono ?_
 rintro e w1 ⟨rfl,hd1,hb1⟩
 have hg1:DiskG W0 w1 W0.heap.size ⟨W0.heap.size,none,[]⟩ (newSt cv):=⟨hd1,rfl,Chg.of_below hb1,fun k hk=>by simp [Gh.fp] at hk;omega⟩
 have HO:=Lib.hid (topen_new hg1 (tab_chg HTB.out HB0.out))
 have HB1:=Lib.hid hb1
 clear hd1 hb1 hg1
 go_wp2_with fail
 refine HO.out.mono ?_
 rintro e w3 ⟨tb,t,g,m,st,rfl,x1,x2,x3,x4,x5,x6,x7,x8,x9,x10,x11,x12⟩
 have hsz:=new_size x9 x7 x12
 have hc3:Chg (fun _=>False) W0 w3:=(Chg.of_below HB1.out:Chg (fun _=>False) W0 w1).trans x11 (fun i hi hx=>by simp [Gh.fp] at hx;omega)
 have HX:=Lib.hid (And.intro x2 (And.intro x4 (And.intro x5 (And.intro x7 (And.intro x8 (And.intro x9 (And.intro x10 hsz)))))))
 have HC3:=Lib.hid hc3
 have HN2:=Lib.hid (new_any 4194304 w3)
 clear x1 x2 x3 x4 x5 x6 x7 x8 x9 x10 x11 x12 hsz hc3
 go_wp2_with fail
 refine HN2.out.mono ?_
 rintro e w4 ⟨rfl,hd4,hb4⟩
 have hS:Calls Tryz.prog 31 #[.pointer (some ⟨w3.heap.size,0,none⟩),.int .i64 hv] w4 (SNew w3 w4 hv 4194304):=snew_any (w0:=w3) (w:=w3) (w':=w4) (Chg.refl _ _) hv 4194304 (by decide) hd4 hb4 (by rw [HHV.out];omega) (by rw [HHV.out];have:=HHH.out;omega)
 have HS:=Lib.hid hS
 clear hd4 hb4 hS
 go_wp2_with fail
 refine HS.out.mono ?_
 rintro e w5 ⟨lb,F,rfl,hl5⟩
 rw [HHV.out] at hl5
 have HL5:=Lib.hid hl5
 have HP:=Lib.hid (pnew_any w5)
 clear hl5
 go_wp2_with fail
 refine HP.out.mono ?_
 rintro e w6 ⟨sb,mb,rfl,hp6,hsb,hmb,hb6⟩
 have hcap:(newSt cv).cap=C:=by
  rw [HCV.out]
  show (min (max (C:Int) 0) 16777216).toNat=C
  have:=HCC.out
  omega
 obtain ⟨z,hzo,hz2,hz3,hz4,hz5,hz6,hz7⟩:=emade_all HTB.out HB0.out HC3.out HX.out.1 HX.out.2.1 HX.out.2.2.1 HX.out.2.2.2.1 HX.out.2.2.2.2.2.1 (HX.out.2.2.2.2.2.2.1.trans hcap) HX.out.2.2.2.2.2.2.2 HL5.out hp6 hb6 hsb hmb rfl
 have hnew:=dnew_ok w6 tb sb lb
 have hc36:Chg (fun _=>False) w3 w6:=(Chg.of_below HL5.out.below:Chg (fun _=>False) w3 w5).trans (Chg.of_below hb6) (fun _ _ x=>x)
 have hres:=hc36.heap (HC3.out.heap HR0.out (fun x=>x)) (fun x=>x)
 have HRES:=Lib.hid hres
 have HZO:=Lib.hid hzo
 have HNEW:=Lib.hid hnew
 have HZ:=Lib.hid (And.intro hz2 (And.intro hz3 (And.intro hz4 (And.intro hz5 (And.intro hz6 hz7)))))
 clear hzo hz2 hz3 hz4 hz5 hz6 hz7 hnew hres hp6 hsb hmb hb6 hc36
 go_wp2_with fail
 refine HNEW.out.mono ?_
 rintro e w7 ⟨rfl,hw7⟩
 have hc7:Chg (fun _=>False) w6 w7:=hw7▸Chg.alloc _ (Chg.refl _ _) _
 have hr7:=hc7.heap HRES.out (fun x=>x)
 have y0:w7.cell? ⟨w.heap.size,0,none⟩=some (.pointer none):=by simp [World.cell?,hr7]
 have y1:w7.cell? ⟨w.heap.size,1,none⟩=some (.pointer none):=by simp [World.cell?,hr7]
 have y2:w7.cell? ⟨w.heap.size,2,none⟩=some (.pointer none):=by simp [World.cell?,hr7]
 have y3:w7.cell? ⟨w.heap.size,3,none⟩=some (.pointer none):=by simp [World.cell?,hr7]
 have yf:∀ i,w7.frozen? ⟨w.heap.size,i,none⟩=false:=fun i=>by simp [World.frozen?,hr7]
 rw [←hw7] at HZ
 have HR7:=Lib.hid hr7
 have HW7:=Lib.hid hw7
 clear hr7 hc7 hw7
 go_wp2_with fail
 obtain ⟨W8,hW8⟩:∃ W,W=(((w7.setCell ⟨w.heap.size,0,none⟩ (.pointer (some ⟨tb,0,none⟩))).setCell ⟨w.heap.size,1,none⟩ (.pointer (some ⟨sb,0,none⟩))).setCell ⟨w.heap.size,2,none⟩ (.pointer (some ⟨lb,0,none⟩))).setCell ⟨w.heap.size,3,none⟩ (.pointer (some ⟨w6.heap.size,0,none⟩)):=⟨_,rfl⟩
 have hs:∀ (W:World) (i:Nat) (v:Value),Chg (fun q=>q=w.heap.size) W (W.setCell ⟨w.heap.size,i,none⟩ v):=fun W i v=>Chg.setCell (S:=fun q=>q=w.heap.size) (p:=⟨w.heap.size,i,none⟩) (Chg.refl _ _) (fun _=>rfl) _
 have hc8:Chg (fun q=>q=w.heap.size) w7 W8:=hW8▸(((hs w7 0 _).trans (hs _ 1 _) (fun _ _ x=>x)).trans (hs _ 2 _) (fun _ _ x=>x)).trans (hs _ 3 _) (fun _ _ x=>x)
 have hr8:W8.heap[w.heap.size]? = some (.cells #[.pointer (some ⟨tb,0,none⟩),.pointer (some ⟨sb,0,none⟩),.pointer (some ⟨lb,0,none⟩),.pointer (some ⟨w6.heap.size,0,none⟩)] 30 (0,0)):=by
  rw [hW8]
  exact heap_setCell_same _ w.heap.size 3 _ _ _ (heap_setCell_same _ w.heap.size 2 _ _ _ (heap_setCell_same _ w.heap.size 1 _ _ _ (heap_setCell_same _ w.heap.size 0 _ _ _ HR7.out)))
 have e0:W8.cell? ⟨w.heap.size,0,none⟩=some (.pointer (some ⟨tb,0,none⟩)):=by simp [World.cell?,hr8]
 have e1:W8.cell? ⟨w.heap.size,1,none⟩=some (.pointer (some ⟨sb,0,none⟩)):=by simp [World.cell?,hr8]
 have e2:W8.cell? ⟨w.heap.size,2,none⟩=some (.pointer (some ⟨lb,0,none⟩)):=by simp [World.cell?,hr8]
 have e3:W8.cell? ⟨w.heap.size,3,none⟩=some (.pointer (some ⟨w6.heap.size,0,none⟩)):=by simp [World.cell?,hr8]
 have hA8:=HZ.out.1.away hc8 (fun q hq hx=>by have:=HZO.out q hq;have:=HL0.out;omega) (fun q hx=>Nat.le_of_eq hx.symm)
 have HA8:=Lib.hid hA8
 rw [←hW8]
 refine bodyPost_ret (v:=.tuple #[.agg #[.pointer (some ⟨tb,0,none⟩),.pointer (some ⟨sb,0,none⟩),.pointer (some ⟨lb,0,none⟩),.pointer (some ⟨w6.heap.size,0,none⟩)],.bool true]) ?_ rfl ?_
 ·clear hW8 hc8 hr8 hA8 y0 y1 y2 y3 yf hs
  simp [results,Tryz.results8,go_sem,e0,e1,e2,e3]
 ·exact ⟨⟨w6.heap.size,tb,sb,mb,lb⟩,z,rfl,HA8.out,HZ.out.2⟩
def OutE (w:World) (B:EnB) (z:EnG) (p:Nat):Prop:=p<w.heap.size∧¬ z.own B p
theorem OutE.to {w w':World} {B:EnB} {z z':EnG} {p:Nat} (h:OutE w B z p) (hq:QTo w (z.own B) w' (z'.own B)):OutE w' B z' p∧w'.heap[p]? = w.heap[p]?:=by
 have hs:=hq.chg.size
 refine ⟨⟨Nat.lt_of_lt_of_le h.1 hs,fun hx=>?_⟩,hq.chg.block p h.1 h.2⟩
 rcases hq.new p hx with a|a
 ·exact h.2 a
 ·have:=h.1;omega
def rigC (B:EnB):Array Value:=#[.pointer (some ⟨B.tb,0,none⟩),.pointer (some ⟨B.sb,0,none⟩),.pointer (some ⟨B.lb,0,none⟩),.pointer (some ⟨B.eb,0,none⟩)]
structure RigI (w:World) (rb:Nat) (B:EnB) (z:EnG):Prop where
 at_:w.heap[rb]? = some (.cells (rigC B) 30 (0,0))
 out:OutE w B z rb
theorem RigI.qt {w w':World} {rb:Nat} {B:EnB} {z z':EnG} (h:RigI w rb B z) (hq:QTo w (z.own B) w' (z'.own B)):RigI w' rb B z':=⟨(h.out.to hq).2.trans h.at_,(h.out.to hq).1⟩
theorem RigI.new {w w':World} {rb:Nat} {B:EnB} {z:EnG} (h:RigI w rb B z) (hc:Chg (fun _=>False) w w'):RigI w' rb B z:=h.qt (QTo.of_new hc)
theorem RigI.chg {S:Nat→Prop} {w w':World} {rb:Nat} {B:EnB} {z:EnG} (h:RigI w rb B z) (hc:Chg S w w') (hn:¬ S rb):RigI w' rb B z:=⟨hc.heap h.at_ hn,Nat.lt_of_lt_of_le h.out.1 hc.size,h.out.2⟩
theorem RigI.cells {w:World} {rb:Nat} {B:EnB} {z:EnG} (h:RigI w rb B z):w.cell? ⟨rb,0,none⟩=some (.pointer (some ⟨B.tb,0,none⟩))∧w.cell? ⟨rb,1,none⟩=some (.pointer (some ⟨B.sb,0,none⟩))∧w.cell? ⟨rb,2,none⟩=some (.pointer (some ⟨B.lb,0,none⟩))∧w.cell? ⟨rb,3,none⟩=some (.pointer (some ⟨B.eb,0,none⟩)):=by
 have h:=h.at_
 refine ⟨?_,?_,?_,?_⟩<;>simp [World.cell?,h,rigC]
theorem RigI.made {w w1:World} {B:EnB} {z:EnG} (hi:EnI w w1 B z):RigI (w1.alloc (.cells (rigC B) 30)) w1.heap.size B z:=by
 have h:=heap_alloc_new w1 (.cells (rigC B) 30)
 exact ⟨h,(Array.getElem?_eq_some_iff.1 h).1,fun hx=>Nat.lt_irrefl _ (hi.lt _ hx)⟩
def EAddTo (w0 w:World) (B:EnB) (C:Nat) (z:EnG) (k p j:Nat) (M:MsgM) (e:Ending) (w':World):Prop:=
 (∃ er:Int,er≠0∧(er=1∧(M.kind=0∨putO M=none)∨er=7∧C<1351*k+1351)∧e = .returned (.tuple #[.int .i64 0,.int .i64 er])∧Chg (fun _=>False) w w') ∨
 (∃ bs z',M.kind≠0∧putO M=some bs∧e = .returned (.tuple #[.int .i64 ((idL z.x.l bs:Nat):Int),.int .i64 0])∧EnA w0 w' B C z' (k+1) p j∧QTo w (z.own B) w' (z'.own B) ∧
  RS z'=RS z ++ [⟨idL z.x.l bs,bs.length,M⟩]∧z'.M=(noteP z.M ((idL z.x.l bs:Nat):Int) M.kind M.due M.ref).2∧z'.hd=z.hd∧z'.ws=z.ws∧z'.L=z.L∧(∀ r∈RS z,r.id<idL z.x.l bs)∧idL z.x.l bs+bs.length=(bytesI z'.x.l).length∧idL z.x.l bs≤1000000)
set_option maxHeartbeats 4000000 in
set_option maxRecDepth 100000 in
theorem eadd_any {w0 w:World} {B:EnB} {C:Nat} {z:EnG} {k p j:Nat} (h:EnA w0 w B C z k p j) (hk:k≤190) (M:MsgM) (vk:Value) (hks:Strs w 0 vk M.keys) (hcap:CapOk vk) (hs:Sound M) :
 Calls Tryz.prog 10 #[.agg (rigC B),M.val vk] w (EAddTo w0 w B C z k p j M):=by
 obtain ⟨m1,mq,m3,m4,m5,m6,m7,m8,m9,m10⟩:=M
 obtain ⟨ka,kc,hva,hx⟩:=id hks
 dsimp only at hva
 obtain ⟨nk,hnk⟩:∃ n,n=m10.length:=⟨_,rfl⟩
 rw [←hnk] at hva
 subst hva
 obtain ⟨W0,hW0⟩:∃ W,W=w.alloc (.cells #[.pointer (some ⟨B.tb,0,none⟩),.pointer (some ⟨B.sb,0,none⟩),.pointer (some ⟨B.lb,0,none⟩),.pointer (some ⟨B.eb,0,none⟩)] 30):=⟨_,rfl⟩
 obtain ⟨W1,hW1⟩:∃ W,W=W0.alloc (.cells #[.int .i64 m1,.int .i64 mq,.int .i64 m3,.int .i64 m4,.int .i64 m5,.int .i64 m6,.string m7,.string m8,.string m9,.slice ka nk kc] 36):=⟨_,rfl⟩
 have hc0:Chg (fun _=>False) w W0:=hW0▸Chg.alloc _ (Chg.refl _ _) _
 have hc1:Chg (fun _=>False) W0 W1:=hW1▸Chg.alloc _ (Chg.refl _ _) _
 have hcw:=hc0.trans hc1 (fun _ _ x=>x)
 have hR0:RigI W0 w.heap.size B z:=hW0▸RigI.made h.i
 have hR1:=hR0.new hc1
 have hbx:Box W1 W0.heap.size #[.int .i64 m1,.int .i64 mq,.int .i64 m3,.int .i64 m4,.int .i64 m5,.int .i64 m6,.string m7,.string m8,.string m9,.slice ka nk kc]:=hW1▸Box.new W0 _
 have hA0:=h.new hc0
 have hA1:=hA0.new hc1
 have hbo:OutE W1 B z W0.heap.size:=⟨hbx.lt,fun hx=>Nat.lt_irrefl _ (hA0.i.lt _ hx)⟩
 have HAP:=Lib.hid (hA1.append (by omega) ⟨m1,mq,m3,m4,m5,m6,m7,m8,m9,m10⟩ (.slice ka nk kc) (hks.below (chg_below hcw) (Nat.le_refl _)) hcap hs)
 obtain ⟨x0,x1,x2,x3⟩:=hR1.cells
 have k0:=hbx.cell
 obtain ⟨bx,hbx'⟩:∃ q,q=W0.heap.size:=⟨_,rfl⟩
 obtain ⟨rb,hrb⟩:∃ q,q=w.heap.size:=⟨_,rfl⟩
 rw [←hbx'] at hbx hbo k0
 rw [←hrb] at hR1 x0 x1 x2 x3
 have HBX:=Lib.hid hbx
 have HBO:=Lib.hid hbo
 have HBB:Hid (bx=w.heap.size+1):=Lib.hid (by rw [hbx',hW0];simp)
 have HRB:=Lib.hid hrb
 have HR1:=Lib.hid hR1
 have HW0:=Lib.hid hW0
 have HW1:=Lib.hid hW1
 have HCW:=Lib.hid hcw
 have HH:=Lib.hid h
 have HK:=Lib.hid hk
 obtain ⟨eb,tb,sb,mb,lb⟩:=B
 unfold rigC MsgM.val MsgM.cells
 dsimp only at *
 clear hks hcap hs hx hnk hW0 hW1 hc0 hc1 hcw hR0 hR1 hA0 hA1 hbo hbx' hrb hbx h hk x2 x3
 go_enter Tryz.func10,Tryz.ntmps10
 go_upto_region 1 with fail
 rw [←HW0.out,←HW1.out,←HBB.out,←HRB.out]
 go_wp2_with fail
 refine HAP.out.mono ?_
 rintro e w5 (⟨er,q1,q2,rfl,hb5⟩|⟨bs,x',p1,p2,rfl,hA5,hq5,a1,a3,_,a5,a4⟩)
 ·have HQ1:(er == (0:Int))=false:=by simpa using q1
  have HE:Hid (Chg (fun _=>False) w w5):=Lib.hid (HCW.out.trans (Chg.of_below hb5) (fun _ _ x=>x))
  have HQ2:=Lib.hid (And.intro q1 q2)
  clear hb5 q1 q2 k0 x0 x1
  go_wp2_with fail
  go_ret2
  exact .inl ⟨er,HQ2.out.1,HQ2.out.2,rfl,HE.out⟩
 ·have hbx5:Box w5 bx _:=(HBO.out.to hq5).2.trans HBX.out
  have hR5:=HR1.out.qt hq5
  have k5:=hbx5.cell
  obtain ⟨_,y1,_,_⟩:=hR5.cells
  dsimp only at y1
  have hnl:=note_len hA5.i.pe.good ((idL z.x.l bs:Nat):Int) m1 m3 m5
  have hml:=HH.out.ml
  have HN:=Lib.hid (hA5.note (by have:=HK.out;omega) ((idL z.x.l bs:Nat):Int) ⟨m1,mq,m3,m4,m5,m6,m7,m8,m9,m10⟩ (.slice ka nk kc) rfl (twf_nat _ (by omega)) (by
   obtain ⟨r0,r1⟩:=ref_ok p2
   obtain ⟨b,hb⟩:∃ b:Nat,m5=(b:Int):=⟨m5.toNat,by dsimp only at r0;omega⟩
   rw [hb]
   exact twf_nat _ (by dsimp only at r1;omega)) (by
   dsimp only at hnl ⊢
   rw [hnl]
   split<;>omega))
  have HP:=Lib.hid (And.intro p1 (And.intro p2 (And.intro a1 (And.intro a3 (And.intro a5 a4)))))
  have HQ5:=Lib.hid hq5
  obtain ⟨id,hid⟩:∃ x:Int,x=((idL z.x.l bs:Nat):Int):=⟨_,rfl⟩
  rw [←hid] at HN ⊢
  have HID:=Lib.hid hid
  unfold MsgM.val MsgM.cells at HN
  dsimp only at HN
  clear hA5 hq5 p1 p2 a1 a3 a5 a4 hbx5 hR5 hnl hml hid k0 x0 x1
  go_wp2_with fail
  refine HN.out.mono ?_
  rintro e w6 ⟨rfl,hA6,hq6⟩
  have HA6:=Lib.hid hA6
  have HQ6:=Lib.hid hq6
  clear hA6 hq6 k5 y1
  go_wp2_with fail
  go_ret2
  refine .inr ⟨bs,_,HP.out.1,HP.out.2.1,by rw [HID.out];rfl,HA6.out,(QTo.of_new HCW.out).trans (HQ5.out.trans HQ6.out),HP.out.2.2.1,?_,rfl,rfl,rfl,HP.out.2.2.2.1,HP.out.2.2.2.2.1,HP.out.2.2.2.2.2⟩
  rw [←HID.out]
theorem SchI.made {w0 w:World} {B:EnB} {C:Nat} {z:EnG} (h:EnA w0 w B C z 0 0 0) (h1:z.x.l=[]) (h2:z.M=[]) (h3:z.hd=0) (h4:z.ws=[]) (h5:z.L=[]):SchI w0 w B C z 0 0 [] 0:=by
 have hr:RS z=[]:=by unfold RS;rw [h1];rfl
 refine ⟨by rw [h3];exact h,?_⟩
 rw [hr,h2,h3,h4,h5]
 exact DqInv.nil
structure HalfI (w0 w:World) (B:EnB) (C:Nat) (z:EnG) (k p:Nat) (all:List SentG) (now:Int) (r:RcM):Prop where
 a:EnA w0 w B C z k p z.hd
 ex:∃ rs M,DqInv rs M z.ws z.hd z.L all now∧RS z=rs ++ [r]∧z.M=(noteP M (r.id:Int) 2 r.m.due r.m.ref).2∧(∀ q∈rs,q.id<r.id)
 kind:r.m.kind=2
 small:r.id≤1000000
theorem HalfI.new {w0 w w':World} {B:EnB} {C:Nat} {z:EnG} {k p:Nat} {all:List SentG} {now:Int} {r:RcM} (h:HalfI w0 w B C z k p all now r) (hc:Chg (fun _=>False) w w'):HalfI w0 w' B C z k p all now r:={ h with a:=h.a.new hc }
def SAddTo (w0 w:World) (B:EnB) (C:Nat) (z:EnG) (k p:Nat) (all:List SentG) (now:Int) (M:MsgM) (e:Ending) (w':World):Prop:=
 (∃ er:Int,er≠0∧(er=1∧putO M=none∨er=7∧C<1351*k+1351)∧e = .returned (.tuple #[.int .i64 0,.int .i64 er])∧Chg (fun _=>False) w w') ∨
 (∃ r z',r.m=M∧e = .returned (.tuple #[.int .i64 (r.id:Int),.int .i64 0])∧HalfI w0 w' B C z' (k+1) p all now r∧QTo w (z.own B) w' (z'.own B)∧z'.hd=z.hd∧z'.ws=z.ws∧z'.L=z.L∧RS z'=RS z ++ [r]∧r.id+r.len=(bytesI z'.x.l).length∧0≤M.due)
theorem SchI.add {w0 w:World} {B:EnB} {C:Nat} {z:EnG} {k p:Nat} {all:List SentG} {now:Int} (h:SchI w0 w B C z k p all now) (hk:k≤190) (M:MsgM) (hM:M.kind=2) (vk:Value) (hks:Strs w 0 vk M.keys) (hcap:CapOk vk) (hs:Sound M) :
 Calls Tryz.prog 10 #[.agg (rigC B),M.val vk] w (SAddTo w0 w B C z k p all now M):=by
 refine (eadd_any h.a hk M vk hks hcap hs).mono ?_
 rintro e w' (⟨er,q1,q2,rfl,hc⟩|⟨bs,z',p1,p2,rfl,a1,a2,a3,a4,a5,a6,a7,a8,a9,a10⟩)
 ·refine .inl ⟨er,q1,?_,rfl,hc⟩
  rcases q2 with ⟨a,b|b⟩|a
  ·omega
  ·exact .inl ⟨a,b⟩
  ·exact .inr a
 ·rw [hM] at a4
  exact .inr ⟨⟨idL z.x.l bs,bs.length,M⟩,z',rfl,rfl,⟨by rw [a5];exact a1,⟨RS z,z.M,by rw [a5,a6,a7];exact h.v,a3,a4,a8⟩,hM,a10⟩,a2,a5,a6,a7,a3,a9,(due_ok p2).1⟩
theorem HalfI.put {w0 w:World} {B:EnB} {C:Nat} {z:EnG} {k p:Nat} {all:List SentG} {now:Int} {r:RcM} (h:HalfI w0 w B C z k p all now r) (hp:p≤99) (hn:now≤6000) (due:Nat) (hdue:due≤1099511627776) (hlt:z.hd<due) :
 Calls Tryz.prog 13 #[.pointer (some ⟨B.lb,0,none⟩),.int .i64 (due:Int),.int .i64 (r.id:Int)] w fun e w'=>e = .returned (.int .i64 0)∧∃ z',SchI w0 w' B C z' k (p+1) (all ++ [⟨r,(due:Int),-1,false⟩]) now∧QTo w (z.own B) w' (z'.own B)∧z'.x=z.x∧z'.hd=z.hd∧z'.ws=z.ws ++ [(due,r.id)]∧z'.L=z.L:=by
 obtain ⟨rs,M,hv,e1,e2,e3⟩:=h.ex
 have hhd:=hv.hdn
 have hsm:=h.small
 refine (h.a.put (by omega) (by omega) due r.id hdue (by omega) hlt).mono ?_
 rintro e w' ⟨rfl,z',a1,a2,a3,a4,a5,a6,a7⟩
 refine ⟨rfl,z',⟨by rw [a5];exact a1,?_⟩,a2,a3,a5,a6,a7⟩
 have hr:RS z'=rs ++ [r]:=by rw [←e1];unfold RS;rw [a3]
 rw [hr,a4,e2,a5,a6,a7]
 refine hv.add h.kind e3 (due:Int) _ _ (fun q hq=>?_) (fun q hq=>.inl hq) (fun q hq=>List.mem_append_left _ hq) (fun q hq=>hq) (.inl ⟨due,rfl,List.mem_append_right _ (List.mem_singleton.2 rfl)⟩)
 rcases List.mem_append.1 hq with a|a
 ·exact .inl a
 ·rw [List.mem_singleton.1 a]
  exact .inr ⟨rfl,rfl⟩
theorem HalfI.addD {w0 w:World} {B:EnB} {C:Nat} {z:EnG} {k p:Nat} {all:List SentG} {now:Int} {r:RcM} (h:HalfI w0 w B C z k p all now r) (hp:p≤99) (due:Int) (hdue:due≤now) (a:Option Addr) (n cap:Nat) (hu:Ints w (.slice a n cap) [(r.id:Int)]) :
 Calls Tryz.prog 12 #[.pointer (some ⟨B.eb,0,none⟩),.slice a n cap] w fun e w'=>e = .returned (.tuple #[])∧∃ z',SchI w0 w' B C z' k (p+1) (all ++ [⟨r,due,-1,false⟩]) now∧QTo w (z.own B) w' (z'.own B)∧z'.x=z.x∧z'.hd=z.hd∧z'.ws=z.ws∧z'.L=z.L ++ [(r.id:Int)]:=by
 obtain ⟨rs,M,hv,e1,e2,e3⟩:=h.ex
 refine (h.a.adds (by omega) [(r.id:Int)] a n cap hu (by simp)).mono ?_
 rintro e w' ⟨rfl,v',a1,a2⟩
 refine ⟨rfl,_,⟨a1,?_⟩,a2,rfl,rfl,rfl,rfl⟩
 show DqInv (RS z) z.M z.ws z.hd (z.L ++ [(r.id:Int)]) _ now
 rw [e1,e2]
 refine hv.add h.kind e3 due _ _ (fun q hq=>.inl hq) (fun q hq=>?_) (fun q hq=>hq) (fun q hq=>List.mem_append_left _ hq) (.inr (List.mem_append_right _ (List.mem_singleton.2 rfl)))
 rcases List.mem_append.1 hq with a|a
 ·exact .inl a
 ·rw [List.mem_singleton.1 a]
  exact .inr ⟨rfl,hdue⟩
theorem EnA.end_ {w0 w:World} {B:EnB} {C:Nat} {z:EnG} {k p j:Nat} (h:EnA w0 w B C z k p j):Calls Tryz.prog 16 #[.pointer (some ⟨B.tb,0,none⟩)] w fun e w'=>e = .returned (.int .i64 ((bytesI z.x.l).length:Nat))∧w=w':=by
 have:=tend_any h.i.tp.tg
 rw [h.i.tp.rc.row.end_,h.i0,Nat.mul_zero,Nat.zero_add] at this
 exact this
theorem EnA.read {w0 w:World} {B:EnB} {C:Nat} {z:EnG} {k p j:Nat} (h:EnA w0 w B C z k p j) (hk:k≤200) {r:RcM} (hr:r∈RS z):Calls Tryz.prog 26 #[.pointer (some ⟨B.tb,0,none⟩),.int .i64 (r.id:Int)] w (ReadTo r.m 0 w):=(h.on hk hr).read h.i.tp
def IdsTo (w:World) (rs:List RcM) (e:Ending) (w':World):Prop:=∃ a cap,e = .returned (.slice a rs.length cap)∧(∀ i r,rs[i]? = some r→∃ g,a=some ⟨g,0,none⟩∧w.heap.size≤g∧g<w'.heap.size∧w'.cell? ⟨g,i,none⟩=some (.int .i64 (r.id:Int)))∧Chg (fun _=>False) w w'
theorem EnA.ids {w0 w:World} {B:EnB} {C:Nat} {z:EnG} {k p j:Nat} (h:EnA w0 w B C z k p j) (hk:k≤200) (c:Nat) {rs:List RcM} (hrs:nxt (RS z) c=rs):Calls Tryz.prog 18 #[.pointer (some ⟨B.tb,0,none⟩),.int .i64 (c:Int)] w (IdsTo w rs):=by
 have hl:=h.ll
 refine (tids_any h.i.tp.tg.tape (le_of_lt' h.i.tp.sorted) (ids_len h.i.tp (by omega)) (c:Int)).mono ?_
 rintro e w' ⟨v,rfl,ho,hb⟩
 rw [ids_from h.i.tp c,show nxt (recsI (1024*z.x.i0) z.x.l) c=rs from hrs,List.length_map] at ho
 rcases ho.2 with ⟨rfl,h0⟩|⟨g,cap,cur,rfl,hbase,hbk,h1,h2,h3,h4⟩
 ·have e0:rs=[]:=List.length_eq_zero_iff.1 h0
  rw [e0]
  exact ⟨none,0,rfl,fun i r hr=>by simp at hr,Chg.of_below hb⟩
 ·refine ⟨_,cap,rfl,fun i r hr=>⟨g,rfl,hbase,(Array.getElem?_eq_some_iff.1 hbk).1,?_⟩,Chg.of_below hb⟩
  have hil:=(List.getElem?_eq_some_iff.1 hr).1
  have e1:(cur.toList.take (rs.length*1))[i]? = ((rs.map fun r=>(r.id:Int)).map (Value.int .i64))[i]?:=by rw [h4]
  rw [List.getElem?_take,if_pos (by omega),Array.getElem?_toList,List.getElem?_map,List.getElem?_map,hr] at e1
  simp only [World.cell?,hbk]
  exact e1
theorem nxt_end {rs:List RcM} {E:Nat} (h:∀ r∈rs,r.id<E) (l:List RcM) (hl:∀ r∈l,E≤r.id):nxt (rs ++ l) E=l:=by
 unfold nxt
 rw [List.filter_append]
 have e1:rs.filter (fun r=>decide (E≤r.id))=[]:=List.filter_eq_nil_iff.2 fun r hr=>by have:=h r hr;simp;omega
 have e2:l.filter (fun r=>decide (E≤r.id))=l:=List.filter_eq_self.2 fun r hr=>by have:=hl r hr;simpa using this
 rw [e1,e2,List.nil_append]
theorem EnA.below_end {w0 w:World} {B:EnB} {C:Nat} {z:EnG} {k p j:Nat} (h:EnA w0 w B C z k p j):∀ r∈RS z,r.id<(bytesI z.x.l).length:=fun r hr=>by
 have:=h.recs r hr
 omega
attribute [local go_sem] fr_opt
def HasBx (w:World) (b:Nat):Prop:=∃ a0 a1 a2 a3 a4 a5 a6 a7 a8 a9,Box w b #[a0,a1,a2,a3,a4,a5,a6,a7,a8,a9]
theorem HasBx.new {w w':World} {b:Nat} (h:HasBx w b) (hc:Chg (fun _=>False) w w'):HasBx w' b:=by
 obtain ⟨a0,a1,a2,a3,a4,a5,a6,a7,a8,a9,h⟩:=h
 exact ⟨_,_,_,_,_,_,_,_,_,_,hc.heap h (fun x=>x)⟩
def awB:MsgM:=⟨2,0,0,0,0,0,⟨#[97]⟩,⟨#[]⟩,⟨#[98]⟩,[]⟩
theorem awB_put:putO awB=some (recB awB):=by
 unfold putO
 rw [if_pos (by kernel_rfl),if_pos (by decide)]
theorem awB_sound:Sound awB:=⟨by show (⟨#[97]⟩:ByteArray).size≤maxLen;unfold maxLen;decide,by show (⟨#[]⟩:ByteArray).size≤maxLen;unfold maxLen;decide,by show (⟨#[98]⟩:ByteArray).size≤1000000;decide,by show ([]:List ByteArray).length≤1000000;decide,fun t h=>by cases h⟩
set_option maxHeartbeats 8000000 in
set_option maxRecDepth 100000 in
theorem dawake_any (w:World) (ht:Tab10 w):Calls Tryz.prog 7 #[] w fun e w'=>e = .returned (.bool true)∧Chg (fun _=>False) w w':=by
 have HM:Hid (Calls Tryz.prog 8 #[.int .i64 10000,.int .i64 0] w (EMadeTo w 10000 0)):=Lib.hid (emade_any w ht 10000 0 (by decide) (by decide))
 clear ht
 go_enter Tryz.func7,Tryz.ntmps7
 go_wp2_with fail
 refine HM.out.mono ?_
 rintro e w1 ⟨B,z,rfl,hA,m1,m2,m3,m4,m5⟩
 have hS:=SchI.made hA m1 m2 m3 m4 m5
 obtain ⟨W1,hW1⟩:∃ W,W=w1.alloc (.cells #[.pointer (some ⟨B.tb,0,none⟩),.pointer (some ⟨B.sb,0,none⟩),.pointer (some ⟨B.lb,0,none⟩),.pointer (some ⟨B.eb,0,none⟩)] 30):=⟨_,rfl⟩
 have hc1:Chg (fun _=>False) w1 W1:=hW1▸Chg.alloc _ (Chg.refl _ _) _
 have hR1:RigI W1 w1.heap.size B z:=hW1▸RigI.made hA.i
 have hS1:=hS.new hc1
 have hrs0:RS z=[]:=by unfold RS;rw [m1];rfl
 obtain ⟨eb,tb,sb,mb,lb⟩:=B
 obtain ⟨rb,hrb⟩:∃ r,r=w1.heap.size:=⟨_,rfl⟩
 rw [←hrb] at hR1
 obtain ⟨r0,r1,r2,r3⟩:=hR1.cells
 dsimp only at *
 have hadd:Calls Tryz.prog 10 #[.agg #[.pointer (some ⟨tb,0,none⟩),.pointer (some ⟨sb,0,none⟩),.pointer (some ⟨lb,0,none⟩),.pointer (some ⟨eb,0,none⟩)],.agg #[.int .i64 2,.int .i64 0,.int .i64 0,.int .i64 0,.int .i64 0,.int .i64 0,.string ⟨#[97]⟩,.string ⟨#[]⟩,.string ⟨#[98]⟩,.slice none 0 0]] W1 (SAddTo w W1 ⟨eb,tb,sb,mb,lb⟩ 10000 z 0 0 [] 0 awB):=hS1.add (by decide) awB rfl (.slice none 0 0) ⟨none,0,rfl,.inl rfl⟩ ⟨none,0,0,rfl,Nat.le_refl _⟩ awB_sound
 have HR1:=Lib.hid hR1
 have HADD:=Lib.hid hadd
 have HZ:=Lib.hid (And.intro m3 (And.intro m4 (And.intro m5 hrs0)))
 have HW1:=Lib.hid hW1
 have HRB:=Lib.hid hrb
 clear hA hS hS1 hR1 m1 m2 m3 m4 m5 hW1 hc1 hrb hadd hrs0
 go_upto_region 2 with fail
 rw [←HW1.out,←HRB.out]
 go_wp2_with fail
 refine HADD.out.mono ?_
 rintro e w2 (⟨er,q1,q2,_⟩|⟨r,z2,hrm,rfl,hH2,hq2,a1,a2,a3,a4,a5,a6⟩)
 ·exfalso
  rcases q2 with ⟨_,q⟩|⟨_,q⟩
  ·rw [awB_put] at q;cases q
  ·omega
 have hR2:=HR1.out.qt hq2
 obtain ⟨r0,r1,r2,r3⟩:=hR2.cells
 dsimp only at r0 r1 r2 r3
 obtain ⟨W2,hW2⟩:∃ W,W=w2.alloc (.cells #[.int .i64 (r.id:Int)] 3):=⟨_,rfl⟩
 have hc2:Chg (fun _=>False) w2 W2:=hW2▸Chg.alloc _ (Chg.refl _ _) _
 have hu:Ints W2 (.slice (some ⟨w2.heap.size,0,none⟩) 1 1) [(r.id:Int)]:=by
  refine ⟨_,1,rfl,.inr ⟨w2.heap.size,0,rfl,fun i hi=>?_⟩⟩
  have:i=0:=by simp at hi;omega
  subst this
  rw [hW2]
  simp
 have HAD:=Lib.hid ((hH2.new hc2).addD (by decide) 0 (by decide) _ _ _ hu)
 have HR2:=Lib.hid (hR2.new hc2)
 have HW2:=Lib.hid hW2
 have hrid:=hH2.small
 rw [HZ.out.2.2.1] at a3
 rw [HZ.out.2.2.2] at a4
 have HRR:=Lib.hid (And.intro hrm (And.intro a3 a4))
 clear hH2 hq2 hR2 hW2 hc2 hu a1 a2 a3 a4 a5 a6 r0 r1 r2 hrm
 go_wp2_with fail
 rw [←HW2.out]
 refine HAD.out.mono ?_
 rintro e w3 ⟨rfl,z3,hS3,hq3,b1,b2,b3,b4⟩
 have hR3:=HR2.out.qt hq3
 obtain ⟨r0,r1,r2,r3⟩:=hR3.cells
 dsimp only at r0 r1 r2 r3
 have HST:=Lib.hid (SchI.step (now:=3) ⟨hS3.a,hS3.v.later (by decide)⟩ (by decide) (by decide) (by decide) (by decide))
 have HR3:=Lib.hid hR3
 have HZ3:Hid (z3.L=[(r.id:Int)]∧RS z3=[r]∧stP z3.M (r.id:Int)=1):=Lib.hid ⟨by rw [b4,HRR.out.2.1];rfl,by unfold RS;rw [b1];exact HRR.out.2.2,hS3.v.st ⟨r,0,-1,false⟩ (List.mem_singleton.2 rfl)⟩
 clear hS3 hq3 hR3 b1 b2 b3 b4 r0 r1 r2
 go_wp2_with fail
 refine HST.out.mono ?_
 rintro e w4 (⟨q,_⟩|⟨z4,rfl,_,_,_,_,_,q|⟨a,q,_,_,q2⟩⟩|⟨_,_,q,_⟩|⟨z4,s,bs,did,hs,hst,hdue,rfl,hS4,hq4,hcm⟩)
 ·exfalso;rw [HZ3.out.1] at q;cases q
 ·exfalso;have:=q.1;rw [HZ3.out.1] at this;cases this
 ·exfalso
  rw [HZ3.out.1] at q
  injection q with q3 q4
  rw [←q3] at q2
  exact q2 HZ3.out.2.2
 ·exfalso;omega
 have hsr:s=⟨r,0,-1,false⟩:=List.mem_singleton.1 hs
 subst hsr
 have hR4:=HR3.out.qt hq4
 obtain ⟨r0,r1,r2,r3⟩:=hR4.cells
 dsimp only at r0 r1 r2 r3 hcm
 have hrs4:=hcm.rs
 rw [HZ3.out.2.1] at hrs4
 have hlt:=hcm.lt r (by rw [HZ3.out.2.1];exact List.mem_singleton.2 rfl)
 have hds:=hcm.small
 have hnx:nxt (RS z4) (r.id+1)=[⟨did,bs.length,dlvM r.m r.id 3⟩]:=by
  rw [hrs4]
  exact nxt_end (rs:=[r]) (fun q hq=>by rw [List.mem_singleton.1 hq];omega) _ (fun q hq=>by rw [List.mem_singleton.1 hq];exact hlt)
 have hids:Calls Tryz.prog 18 #[.pointer (some ⟨tb,0,none⟩),.int .i64 ((r.id:Int)+1)] w4 (IdsTo w4 [⟨did,bs.length,dlvM r.m r.id 3⟩]):=hS4.a.ids (by decide) (r.id+1) hnx
 have hread:∀ W,Chg (fun _=>False) w4 W→Calls Tryz.prog 26 #[.pointer (some ⟨tb,0,none⟩),.int .i64 (did:Int)] W (ReadTo (dlvM r.m r.id 3) 0 W):=fun W hW=>(hS4.a.new hW).read (by decide) (r:=⟨did,bs.length,dlvM r.m r.id 3⟩) (by rw [hrs4];exact List.mem_append_right _ (List.mem_singleton.2 rfl))
 obtain ⟨rid,hri⟩:∃ x:Int,x=(r.id:Int):=⟨_,rfl⟩
 have hrw:IntKind.i64.wrap (rid+1)=rid+1:=by rw [IntWalk.i64_in _ (by omega)]
 rw [←hri] at hids hread ⊢
 rw [HRR.out.1] at hread
 unfold dlvM awB ReadTo MsgM.val MsgM.cells at hread
 dsimp only at hread
 obtain ⟨dd,hdd⟩:∃ x:Int,x=(did:Int):=⟨_,rfl⟩
 rw [←hdd] at hread
 have HDD:=Lib.hid hdd
 have HIDS:=Lib.hid hids
 have HREAD:=Lib.hid hread
 have HR4:=Lib.hid hR4
 have HC4:Hid (Chg (fun _=>False) w w4):=Lib.hid hS4.a.chg
 clear hS4 hq4 hcm hrs4 hlt hds hnx hids hread hri hdd hR4 r1 r2 r3 hs hst hdue HST HAD HADD HM
 go_wp2_with fail
 refine HIDS.out.mono ?_
 rintro e W ⟨ga,cap,rfl,hcell,hcW⟩
 obtain ⟨g,rfl,_,_,hg0⟩:=hcell 0 _ rfl
 dsimp only at hg0
 have hg0:W.cell? ⟨g,0,none⟩=some (.int .i64 dd):=by rw [HDD.out];exact hg0
 have hR5:=HR4.out.new hcW
 have HR0:Hid (W.cell? ⟨rb,0,none⟩=some (.pointer (some ⟨tb,0,none⟩))):=Lib.hid hR5.cells.1
 have HG0:=Lib.hid hg0
 have HRD:Hid (∀ W',Chg (fun _=>False) W W'→_):=Lib.hid (fun W' (hW:Chg (fun _=>False) W W')=>HREAD.out W' (hcW.trans hW (fun _ _ x=>x)))
 have HCW:Hid (Chg (fun _=>False) w W):=Lib.hid (HC4.out.trans hcW (fun _ _ x=>x))
 clear hcell hcW hg0 hR5 r0
 dsimp only [List.length_singleton]
 go_upto_region 10 with fail
 refine region_pt (n:=85) 14 [10] rfl rfl (by kernel_rfl) (by kernel_rfl) (by kernel_rfl) (fun i v=>match i with|0=>v = .pointer (some ⟨rb,0,none⟩)|1=>v = .pointer (some ⟨tb,0,none⟩)|2=>v = .slice (some ⟨g,0,none⟩) 1 cap|3=>v = .pointer (some ⟨g,0,none⟩)|4=>v = .int .i64 dd|5=>(fun v=>∃ ka kn kc,v = .tuple #[.agg #[.int .i64 3,.int .i64 0,.int .i64 0,.int .i64 0,.int .i64 rid,.int .i64 3,.string ⟨#[97]⟩,.string ⟨#[]⟩,.string ⟨#[98]⟩,.slice ka kn kc],.int .i64 0]) v|6=>(fun v=>∃ ka kn kc,v = .tuple #[.agg #[.int .i64 3,.int .i64 0,.int .i64 0,.int .i64 0,.int .i64 rid,.int .i64 3,.string ⟨#[97]⟩,.string ⟨#[]⟩,.string ⟨#[98]⟩,.slice ka kn kc],.int .i64 0]) v|7=>(fun v=>∃ ka kn kc,v = .agg #[.int .i64 3,.int .i64 0,.int .i64 0,.int .i64 0,.int .i64 rid,.int .i64 3,.string ⟨#[97]⟩,.string ⟨#[]⟩,.string ⟨#[98]⟩,.slice ka kn kc]) v|8=>v = .int .i64 0|9=>(fun v=>∃ b,v = .pointer (some ⟨b,0,none⟩)∧W.heap.size≤b) v|11=>v = .int .i64 0|_=>True)
  (fun p f w'=>match p with|0=>Chg (fun _=>False) W w'∧∀ b,f 8 = .pointer (some ⟨b,0,none⟩)→HasBx w' b|_+1=>Chg (fun _=>False) W w'∧∃ b vk,f 8 = .pointer (some ⟨b,0,none⟩)∧Box w' b #[.int .i64 3,.int .i64 0,.int .i64 0,.int .i64 0,.int .i64 rid,.int .i64 3,.string ⟨#[97]⟩,.string ⟨#[]⟩,.string ⟨#[98]⟩,vk]) ?_ ?_ ?_
 ·exact ⟨(Chg.refl _ _).drew,fun b hb=>by cases hb⟩
 ·simp only [AllAt]
  refine ⟨?_,?_,?_,?_,?_,?_,?_,?_,?_,?_,?_,?_,trivial⟩
  ·refine StepPT.reg (fun f hp=>wanted_none rfl) (by decide) (fun d hd=>by cases hd;decide) ?_
   intro f w' p hG hup hdn hfr hp K hK
   have g1:f 1 = .pointer (some ⟨rb,0,none⟩):=hfr 1 (by kernel_rfl)
   clear hfr hp hup hdn
   go_simp
   exact hK _ _ rfl hG
  ·refine StepPT.reg (fun f hp=>wanted_none rfl) (by decide) (fun d hd=>by cases hd;decide) ?_
   intro f w' p hG hup hdn hfr hp K hK
   have g54:f 54 = .pointer (some ⟨rb,0,none⟩):=hp 0 _ 54 rfl rfl (by kernel_rfl)
   have hpp:p≤0:=by have:=hdn 0 (by decide) (.inl (by kernel_rfl));omega
   obtain rfl:p=0:=by omega
   have x0:=hG.1.cell HR0.out (fun x=>x)
   clear hfr hp hup hdn
   go_simp
   exact hK _ _ rfl hG
  ·refine StepPT.reg (fun f hp=>wanted_none rfl) (by decide) (fun d hd=>by cases hd;decide) ?_
   intro f w' p hG hup hdn hfr hp K hK
   have g7:f 7 = .slice (some ⟨g,0,none⟩) 1 cap:=hfr 7 (by kernel_rfl)
   clear hfr hp hup hdn
   go_simp
   exact hK _ _ rfl hG
  ·refine StepPT.reg (fun f hp=>wanted_none rfl) (by decide) (fun d hd=>by cases hd;decide) ?_
   intro f w' p hG hup hdn hfr hp K hK
   have g56:f 56 = .slice (some ⟨g,0,none⟩) 1 cap:=hp 2 _ 56 rfl rfl (by kernel_rfl)
   clear hfr hp hup hdn
   go_simp
   exact hK _ _ rfl hG
  ·refine StepPT.reg (fun f hp=>wanted_none rfl) (by decide) (fun d hd=>by cases hd;decide) ?_
   intro f w' p hG hup hdn hfr hp K hK
   have g57:f 57 = .pointer (some ⟨g,0,none⟩):=hp 3 _ 57 rfl rfl (by kernel_rfl)
   have hpp:p≤0:=by have:=hdn 0 (by decide) (.inl (by kernel_rfl));omega
   obtain rfl:p=0:=by omega
   have x0:=hG.1.cell HG0.out (fun x=>x)
   clear hfr hp hup hdn
   go_simp
   exact hK _ _ rfl hG
  ·refine StepPT.reg (fun f hp=>wanted_none rfl) (by decide) (fun d hd=>by cases hd;decide) ?_
   intro f w' p hG hup hdn hfr hp K hK
   have g55:f 55 = .pointer (some ⟨tb,0,none⟩):=hp 1 _ 55 rfl rfl (by kernel_rfl)
   have g58:f 58 = .int .i64 dd:=hp 4 _ 58 rfl rfl (by kernel_rfl)
   have hpp:p≤0:=by have:=hdn 0 (by decide) (.inl (by kernel_rfl));omega
   obtain rfl:p=0:=by omega
   clear hfr hp hup hdn
   go_simp
   refine (HRD.out _ hG.1).mono ?_
   rintro e w8 ⟨vk,rfl,hst,_,hb8⟩
   obtain ⟨ka,kc,rfl⟩:=hst.form
   exact hK _ _ ⟨ka,_,kc,rfl⟩ ⟨hG.1.trans (below_chg hb8) (fun _ _ x=>x),fun b hb=>HasBx.new (hG.2 b hb) (below_chg hb8)⟩
  ·refine StepPT.reg (fun f hp=>wanted_none rfl) (by decide) (fun d hd=>by cases hd;decide) ?_
   intro f w' p hG hup hdn hfr hp K hK
   have r59:(fun v=>∃ ka kn kc,v = .tuple #[.agg #[.int .i64 3,.int .i64 0,.int .i64 0,.int .i64 0,.int .i64 rid,.int .i64 3,.string ⟨#[97]⟩,.string ⟨#[]⟩,.string ⟨#[98]⟩,.slice ka kn kc],.int .i64 0]) (f 59):=hp 5 _ 59 rfl rfl (by kernel_rfl)
   clear hfr hp hup hdn
   obtain ⟨ka,kn,kc,e59⟩:=r59
   go_simp
   exact hK _ _ ⟨ka,kn,kc,rfl⟩ hG
  ·refine StepPT.reg (fun f hp=>wanted_none rfl) (by decide) (fun d hd=>by cases hd;decide) ?_
   intro f w' p hG hup hdn hfr hp K hK
   have r53:(fun v=>∃ ka kn kc,v = .tuple #[.agg #[.int .i64 3,.int .i64 0,.int .i64 0,.int .i64 0,.int .i64 rid,.int .i64 3,.string ⟨#[97]⟩,.string ⟨#[]⟩,.string ⟨#[98]⟩,.slice ka kn kc],.int .i64 0]) (f 53):=hp 6 _ 53 rfl rfl (by kernel_rfl)
   clear hfr hp hup hdn
   obtain ⟨ka,kn,kc,e53⟩:=r53
   go_simp
   exact hK _ _ ⟨ka,kn,kc,rfl⟩ hG
  ·refine StepPT.reg (fun f hp=>wanted_none rfl) (by decide) (fun d hd=>by cases hd;decide) ?_
   intro f w' p hG hup hdn hfr hp K hK
   have r53:(fun v=>∃ ka kn kc,v = .tuple #[.agg #[.int .i64 3,.int .i64 0,.int .i64 0,.int .i64 0,.int .i64 rid,.int .i64 3,.string ⟨#[97]⟩,.string ⟨#[]⟩,.string ⟨#[98]⟩,.slice ka kn kc],.int .i64 0]) (f 53):=hp 6 _ 53 rfl rfl (by kernel_rfl)
   clear hfr hp hup hdn
   obtain ⟨ka,kn,kc,e53⟩:=r53
   go_simp
   exact hK _ _ rfl hG
  ·refine StepPT.reg (fun f hp=>wanted_none rfl) (by decide) (fun d hd=>by cases hd;decide) ?_
   intro f w' p hG hup hdn hfr hp K hK
   have hpp:p≤0:=by have:=hdn 0 (by decide) (.inl (by kernel_rfl));omega
   obtain rfl:p=0:=by omega
   clear hfr hp hup hdn
   go_simp
   exact hK _ _ ⟨_,rfl,hG.1.size⟩ ⟨Chg.alloc _ hG.1 _,fun b hb=>by (have hb:Value.pointer (some ⟨w'.heap.size,0,none⟩)=Value.pointer (some ⟨b,0,none⟩):=hb);cases hb;exact ⟨_,_,_,_,_,_,_,_,_,_,Box.new _ _⟩⟩
  ·refine StepPT.wr 0 (fun f hp=>wanted_none rfl) (by decide) rfl (fun d hd=>by cases hd) (fun j hj=>by omega) ?_
   intro f w' hG hfr hp K hK
   have r8:(fun v=>∃ b,v = .pointer (some ⟨b,0,none⟩)∧W.heap.size≤b) (f 8):=hp 9 _ 8 rfl rfl (by kernel_rfl)
   have r60:(fun v=>∃ ka kn kc,v = .agg #[.int .i64 3,.int .i64 0,.int .i64 0,.int .i64 0,.int .i64 rid,.int .i64 3,.string ⟨#[97]⟩,.string ⟨#[]⟩,.string ⟨#[98]⟩,.slice ka kn kc]) (f 60):=hp 7 _ 60 rfl rfl (by kernel_rfl)
   clear hfr hp
   obtain ⟨b,e8,hbW⟩:=r8
   obtain ⟨ka,kn,kv,e60⟩:=r60
   obtain ⟨b0,b1,b2,b3,b4,b5,b6,b7,b8,b9,hbx⟩:=hG.2 b e8
   have kc:=hbx.cell
   have kf:=hbx.free
   have HF:=Lib.hid (box_fill hbx (.int .i64 3) (.int .i64 0) (.int .i64 0) (.int .i64 0) (.int .i64 rid) (.int .i64 3) (.string ⟨#[97]⟩) (.string ⟨#[]⟩) (.string ⟨#[98]⟩) (.slice ka kn kv))
   have HCF:Hid (Chg (fun _=>False) W (set10 w' b (.int .i64 3) (.int .i64 0) (.int .i64 0) (.int .i64 0) (.int .i64 rid) (.int .i64 3) (.string ⟨#[97]⟩) (.string ⟨#[]⟩) (.string ⟨#[98]⟩) (.slice ka kn kv))):=Lib.hid (hG.1.trans (chg_set10 _ _ _ _ _ _ _ _ _ _ _ _) (fun i hi (e:i=b)=>by omega))
   have HE8:=Lib.hid e8
   clear hG hbx
   unfold set10 at HF HCF
   go_simp
   exact hK undef _ (fun _=>trivial) ⟨HCF.out,b,_,HE8.out,HF.out⟩
  ·refine StepPT.reg (fun f hp=>wanted_none rfl) (by decide) (fun d hd=>by cases hd;decide) ?_
   intro f w' p hG hup hdn hfr hp K hK
   have g61:f 61 = .int .i64 0:=hp 8 _ 61 rfl rfl (by kernel_rfl)
   clear hfr hp hup hdn
   go_simp
   exact hK _ _ rfl hG
 ·intro f w8 hG hfr hR
  have g9:f 9 = .int .i64 0:=hR 11 _ 9 rfl rfl
  obtain ⟨hc8,b,vk,g8,hbx⟩:=hG
  have hback:=fr_back (n:=85) (f:=f) (D:=[8,9,53,54,55,56,57,58,59,60,61]) rfl (by kernel_rfl) hfr
  rw [hback]
  simp only [mixL,List.elem_eq_contains,List.contains_cons,List.contains_nil,Nat.reduceBEq,Nat.reduceAdd,Bool.or_false,Bool.or_true,Bool.false_or,Bool.true_or,cond_false,cond_true,Bool.or_self,Nat.zero_add]
  clear hback hfr hR
  rw [g8,g9]
  clear g8 g9
  have kc:=hbx.cell
  have HF:Hid (Chg (fun _=>False) w w8):=Lib.hid (HCW.out.trans hc8 (fun _ _ x=>x))
  clear hc8 hbx
  go_wp2_with fail
  go_ret
  exact ⟨by simp,HF.out⟩
end Go.Proofs.YtajmeimjaapagaaGreatDoor
namespace Go.Proofs.YtajmeimjaapagaaGreatDoor
open Go.RowKit Go.Deep
theorem min_ex {P:Nat→Prop} (h:∃ n,P n):∃ n,P n∧∀ m,P m→n≤m:=by
 obtain ⟨n,hn⟩:=h
 induction n using Nat.strongRecOn with
 | ind n ih=>
  by_cases hx:∃ m,m<n∧P m
  ·obtain ⟨m,h1,h2⟩:=hx
   exact ih m h1 h2
  ·refine ⟨n,hn,fun m hm=>?_⟩
   rcases Nat.lt_or_ge m n with h|h
   ·exact absurd ⟨m,h,hm⟩ hx
   ·exact h
noncomputable def muW (P:Nat→World→Prop) (w:World):Nat:=by
 classical
 exact if h:∃ n,P n w then Classical.choose (min_ex h) else 0
theorem muW_le {P:Nat→World→Prop} {n:Nat} {w:World} (h:P n w):muW P w≤n:=by
 classical
 unfold muW
 rw [dif_pos ⟨n,h⟩]
 exact (Classical.choose_spec (min_ex ⟨n,h⟩)).2 n h
theorem muW_at {P:Nat→World→Prop} {w:World} (h:∃ n,P n w):P (muW P w) w:=by
 classical
 unfold muW
 rw [dif_pos h]
 exact (Classical.choose_spec (min_ex h)).1
theorem intsK_keep {k:IntKind} {S:Nat→Prop} {w w':World} {v:Value} {zs:List Int} (h:IntsOf k w v zs) (hc:Chg S w w') (hS:∀ q,q<w.heap.size→¬ S q):IntsOf k w' v zs:=by
 obtain ⟨a,cap,e,h⟩:=h
 refine ⟨a,cap,e,?_⟩
 rcases h with h|⟨b,o,rfl,h⟩
 ·exact .inl h
 ·refine .inr ⟨b,o,rfl,fun i hi=>hc.cell (h i hi) (hS b ?_)⟩
  have:=h i hi
  exact World.block_lt_of_cell? _ _ this
structure LwI (w0 w:World) (B:EnB) (C:Nat) (z:EnG) (rb k p:Nat) (all:List SentG) (now:Int):Prop where
 s:SchI w0 w B C z k p all now
 g:RigI w rb B z
theorem LwI.new {w0 w w':World} {B:EnB} {C:Nat} {z:EnG} {rb k p:Nat} {all:List SentG} {now:Int} (h:LwI w0 w B C z rb k p all now) (hc:Chg (fun _=>False) w w'):LwI w0 w' B C z rb k p all now:=⟨h.s.new hc,h.g.new hc⟩
theorem LwI.qt {w0 w w':World} {B:EnB} {C:Nat} {z z':EnG} {rb k p k' p':Nat} {all all':List SentG} {now now':Int} (h:LwI w0 w B C z rb k p all now) (hs:SchI w0 w' B C z' k' p' all' now') (hq:QTo w (z.own B) w' (z'.own B)):LwI w0 w' B C z' rb k' p' all' now':=⟨hs,h.g.qt hq⟩
theorem LwI.later {w0 w:World} {B:EnB} {C:Nat} {z:EnG} {rb k p:Nat} {all:List SentG} {now now':Int} (h:LwI w0 w B C z rb k p all now) (hn:now≤now'):LwI w0 w B C z rb k p all now':=⟨⟨h.s.a,h.s.v.later hn⟩,h.g⟩
def awS (d:Int):MsgM:=⟨2,0,d,0,0,0,⟨#[97]⟩,⟨#[]⟩,⟨#[]⟩,[]⟩
theorem awS_put {d:Int} (h:0≤d∧d≤1099511627776):putO (awS d)=some (recB (awS d)):=by
 have h1:restB (awS d)=true:=by
  have e:restB (awS 0)=true:=by kernel_rfl
  exact e
 have h2:rightB (awS d)=true:=by
  unfold rightB
  rw [h1,Bool.and_true]
  refine allIn_iff.2 fun x hx=>?_
  have hx:x∈[2,0,d,0,0,0]:=hx
  simp only [List.mem_cons,List.not_mem_nil,or_false] at hx
  omega
 unfold putO
 rw [if_pos h2,if_pos (by show (2:Int)≠0;decide)]
theorem awS_sound (d:Int):Sound (awS d):=⟨by show (⟨#[97]⟩:ByteArray).size≤maxLen;unfold maxLen;decide,by show (⟨#[]⟩:ByteArray).size≤maxLen;unfold maxLen;decide,by show (⟨#[]⟩:ByteArray).size≤1000000;decide,by show ([]:List ByteArray).length≤1000000;decide,fun t h=>by cases h⟩
def SPutTo (w0 w:World) (B:EnB) (z:EnG) (rb k p:Nat) (all:List SentG) (now:Int) (d:Int) (e:Ending) (w':World):Prop:=
 ∃ r z',r.m=awS d∧e = .returned (.tuple #[.int .i64 (r.id:Int),.int .i64 0])∧HalfI w0 w' B 1048576 z' (k+1) p all now r∧RigI w' rb B z'∧QTo w (z.own B) w' (z'.own B)∧z'.hd=z.hd∧z'.ws=z.ws∧z'.L=z.L∧RS z'=RS z ++ [r]∧r.id+r.len=(bytesI z'.x.l).length
theorem LwI.addS {w0 w:World} {B:EnB} {z:EnG} {rb k p:Nat} {all:List SentG} {now:Int} (h:LwI w0 w B 1048576 z rb k p all now) (hk:k≤190) {d:Int} (hd:0≤d∧d≤1099511627776) :
 Calls Tryz.prog 10 #[.agg #[.pointer (some ⟨B.tb,0,none⟩),.pointer (some ⟨B.sb,0,none⟩),.pointer (some ⟨B.lb,0,none⟩),.pointer (some ⟨B.eb,0,none⟩)],.agg #[.int .i64 2,.int .i64 0,.int .i64 d,.int .i64 0,.int .i64 0,.int .i64 0,.string ⟨#[97]⟩,.string ⟨#[]⟩,.string ⟨#[]⟩,.slice none 0 0]] w (SPutTo w0 w B z rb k p all now d):=by
 refine (show Calls Tryz.prog 10 #[.agg (rigC B),(awS d).val (.slice none 0 0)] w (SAddTo w0 w B 1048576 z k p all now (awS d)) from h.s.add hk (awS d) rfl (.slice none 0 0) ⟨none,0,rfl,.inl rfl⟩ ⟨none,0,0,rfl,Nat.le_refl _⟩ (awS_sound d)).mono ?_
 rintro e w' (⟨er,q1,q2,_⟩|⟨r,z',a1,a2,a3,a4,a5,a6,a7,a8,a9,a10⟩)
 ·exfalso
  rcases q2 with ⟨_,q⟩|⟨_,q⟩
  ·rw [awS_put hd] at q;cases q
  ·omega
 ·exact ⟨r,z',a1,a2,a3,h.g.qt a4,a4,a5,a6,a7,a8,a9⟩
theorem u8_due {x:Int} (h:(Lit.int .u8 x).wf=true) (m:Nat) (hm:0<m):0≤x∧x≤255∧IntKind.i64.wrap x=x∧∃ d:Nat,(1+x % (m:Int))=((1+d:Nat):Int)∧d<m:=by
 have h2:0≤x∧x≤255:=by
  have h2:IntKind.u8.min≤x∧x≤IntKind.u8.max:=by simpa [Lit.wf] using h
  have e1:IntKind.u8.min=0:=by decide
  have e2:IntKind.u8.max=255:=by decide
  omega
 obtain ⟨n,rfl⟩:∃ n:Nat,x=(n:Int):=⟨x.toNat,by omega⟩
 refine ⟨h2.1,h2.2,IntWalk.i64_in _ (by omega),n % m,?_,Nat.mod_lt n hm⟩
 rw [←Int.natCast_emod]
 omega
def LexR (a b:RcM):Prop:=a.m.due<b.m.due∨a.m.due=b.m.due∧a.m.ref<b.m.ref
structure OrdI (w0 w:World) (B:EnB) (z:EnG) (rb k n:Nat) (all:List SentG) (t:Int) (S D:List RcM):Prop where
 l:LwI w0 w B 1048576 z rb k n all t
 len:all.length=n
 all_:∀ s∈all,1≤s.due∧s.due≤200∧s.r.m=awS s.due∧s.gone=false
 wsS:z.ws.Pairwise (fun a b=>a.2<b.2)
 LS:z.L.Pairwise (· < ·)
 hdt:(z.L=[]∧(z.hd:Int)=t - 1)∨(z.hd:Int)=t
 Lg:∀ a∈z.L,∃ s∈all,(s.r.id:Int)=a∧s.st=1∧s.due=(z.hd:Int)
 Wg:∀ p∈z.ws,∃ s∈all,s.r.id=p.2∧s.st=1∧s.due=(p.1:Int)
 disj:∀ a∈z.L,∀ p∈z.ws,(p.2:Int)≠a
 rs:RS z=S ++ D
 Dm:∀ r∈D,∃ s∈all,r.m=dlvM (awS s.due) s.r.id s.due∧s.due≤(z.hd:Int)
 Ds:D.Pairwise LexR
 DL:∀ r∈D,∀ a∈z.L,r.m.due<(z.hd:Int)∨r.m.ref<a
 cnt:D.length+z.L.length+z.ws.length=n
 kb:k+z.L.length+z.ws.length≤2*n
theorem come_split {ws:WL} {x:Nat} {p q:Nat×Nat} (h:ws.Pairwise (fun a b=>a.2<b.2)) (hp:p∈comeL ws x) (hq:q∈restL ws x):q.2≠p.2:=by
 intro e
 obtain ⟨p1,p2⟩:=List.mem_filter.1 hp
 obtain ⟨q1,q2⟩:=List.mem_filter.1 hq
 have p2:p.1=x:=by simpa using p2
 have q2:q.1≠x:=by simpa using q2
 have key:∀ {l:WL},l.Pairwise (fun a b=>a.2<b.2)→p∈l→q∈l→p=q:=by
  intro l
  induction l with
  | nil=>intro _ h;cases h
  | cons y l ih=>
   intro h hp hq
   obtain ⟨h1,h2⟩:=List.pairwise_cons.1 h
   rcases List.mem_cons.1 hp with e1|hp1
   ·rcases List.mem_cons.1 hq with e2|hq1
    ·rw [e1,e2]
    ·have:=h1 q hq1
     rw [e1] at e
     omega
   ·rcases List.mem_cons.1 hq with e2|hq1
    ·have:=h1 p hp1
     rw [e2] at e
     omega
    ·exact ih h2 hp1 hq1
 have:=key h p1 q1
 rw [this] at p2
 exact q2 p2
theorem OrdI.turn {w0 w w':World} {B:EnB} {z z':EnG} {rb k n:Nat} {all:List SentG} {t:Int} {S D:List RcM} (h:OrdI w0 w B z rb k n all t S D) (hs:SchI w0 w' B 1048576 z' k n all t) (hq:QTo w (z.own B) w' (z'.own B)) (hx:z'.x=z.x) (hM:z'.M=z.M) (ht:TurnTo z z') (hb:z.L=[]→(z.hd:Int)<t):OrdI w0 w' B z' rb k n all t S D:=by
 rcases ht with ⟨a1,a2,a3,a4⟩|⟨a,a1,a2,a3,a4⟩
 ·have hlt:=hb a1
  have hhd:(z'.hd:Int)=t:=by
   rcases h.hdt with ⟨_,e⟩|e<;>omega
  have hp:=part_sum z.ws (z.hd+1)
  have hcn:=h.cnt
  have hkb:=h.kb
  rw [a1,List.length_nil] at hcn hkb
  have hl:z'.L.length=(comeL z.ws (z.hd+1)).length:=by rw [a3];unfold idsL;rw [List.length_map]
  refine ⟨h.l.qt hs hq,h.len,h.all_,by rw [a4];exact h.wsS.filter _,?_,.inr hhd,fun a ha=>?_,fun p hp=>?_,fun a ha p hp=>?_,by unfold RS;rw [hx];exact h.rs,fun r hr=>?_,h.Ds,fun r hr a ha=>?_,by rw [hl,a4];omega,by rw [hl,a4];omega⟩
  ·rw [a3]
   unfold idsL
   rw [List.pairwise_map]
   exact (h.wsS.filter _).imp fun {a b} q=>by omega
  ·rw [a3] at ha
   obtain ⟨p,hp,rfl⟩:=List.mem_map.1 ha
   obtain ⟨p1,p2⟩:=List.mem_filter.1 hp
   have p2:p.1=z.hd+1:=by simpa using p2
   obtain ⟨s,q1,q2,q3,q4⟩:=h.Wg p p1
   exact ⟨s,q1,by omega,q3,by omega⟩
  ·rw [a4] at hp
   exact h.Wg p (List.mem_filter.1 hp).1
  ·rw [a3] at ha
   rw [a4] at hp
   obtain ⟨q,hq,rfl⟩:=List.mem_map.1 ha
   have:=come_split h.wsS hq hp
   omega
  ·obtain ⟨s,q1,q2,q3⟩:=h.Dm r hr
   exact ⟨s,q1,q2,by omega⟩
  ·obtain ⟨s,q1,q2,q3⟩:=h.Dm r hr
   refine .inl ?_
   rw [q2]
   show s.due<_
   omega
 ·exfalso
  obtain ⟨s,q1,q2,q3,_⟩:=h.Lg a (by rw [a1];exact List.mem_cons_self ..)
  have:=h.l.s.v.st s q1
  rw [q2,q3] at this
  exact a4 this
theorem OrdI.came {w0 w w':World} {B:EnB} {z z':EnG} {rb k n:Nat} {all:List SentG} {t:Int} {S D:List RcM} {s:SentG} {bs:List UInt8} {id:Nat} (h:OrdI w0 w B z rb k n all t S D) (hs:SchI w0 w' B 1048576 z' (k+1) n (all.map (dlvS s.r.id t)) t) (hq:QTo w (z.own B) w' (z'.own B)) (hm:s∈all) (hst:s.st=1) (hc:CameTo z z' s t bs id) :
 OrdI w0 w' B z' rb (k+1) n (all.map (dlvS s.r.id t)) t S (D ++ [⟨id,bs.length,dlvM s.r.m s.r.id t⟩]):=by
 have hid:=fun u=>(dlvS_id s.r.id t u).1
 obtain ⟨s',q1,q2,q3,q4⟩:=h.Lg _ (by rw [hc.L];exact List.mem_cons_self ..)
 have hss:s'=s:=h.l.s.v.uniq q1 hm (by omega)
 subst hss
 have hne:z.L≠[]:=by rw [hc.L];exact List.cons_ne_nil _ _
 have hht:(z.hd:Int)=t:=by
  rcases h.hdt with ⟨e,_⟩|e
  ·exact absurd e hne
  ·exact e
 have hdt:s'.due=t:=by omega
 have hsm:=(h.all_ s' hm).2.2.1
 have hLS:=h.LS
 rw [hc.L] at hLS
 obtain ⟨h1,h2⟩:=List.pairwise_cons.1 hLS
 have hkeep:∀ u∈all,u.r.id≠s'.r.id→u∈all.map (dlvS s'.r.id t):=fun u hu hne=>by
  have e:dlvS s'.r.id t u=u:=by unfold dlvS;rw [if_neg hne]
  rw [←e]
  exact List.mem_map_of_mem hu
 have hcn:=h.cnt
 have hkb:=h.kb
 rw [hc.L,List.length_cons] at hcn hkb
 refine ⟨h.l.qt hs hq,by rw [List.length_map];exact h.len,fun u hu=>?_,by rw [hc.ws];exact h.wsS,h2,.inr (by rw [hc.hd];exact hht),fun a ha=>?_,fun p hp=>?_,fun a ha p hp=>?_,by rw [hc.rs,h.rs,List.append_assoc],fun r hr=>?_,?_,fun r hr a ha=>?_,?_,?_⟩
 ·obtain ⟨u0,hu0,rfl⟩:=List.mem_map.1 hu
  obtain ⟨e1,e2,e3⟩:=dlvS_id s'.r.id t u0
  rw [e1,e2,e3]
  exact h.all_ u0 hu0
 ·obtain ⟨u,r1,r2,r3,r4⟩:=h.Lg a (by rw [hc.L];exact List.mem_cons_of_mem _ ha)
  have:=h1 a ha
  exact ⟨u,hkeep u r1 (by omega),r2,r3,by rw [hc.hd];exact r4⟩
 ·rw [hc.ws] at hp
  obtain ⟨u,r1,r2,r3,r4⟩:=h.Wg p hp
  have:=h.disj _ (by rw [hc.L];exact List.mem_cons_self ..) p hp
  exact ⟨u,hkeep u r1 (by omega),r2,r3,r4⟩
 ·rw [hc.ws] at hp
  exact h.disj a (by rw [hc.L];exact List.mem_cons_of_mem _ ha) p hp
 ·rcases List.mem_append.1 hr with a|a
  ·obtain ⟨u,r1,r2,r3⟩:=h.Dm r a
   obtain ⟨e1,e2,e3⟩:=dlvS_id s'.r.id t u
   exact ⟨_,List.mem_map_of_mem r1,by rw [e1,e2];exact r2,by rw [e2,hc.hd];exact r3⟩
  ·rw [List.mem_singleton.1 a]
   obtain ⟨e1,e2,e3⟩:=dlvS_id s'.r.id t s'
   exact ⟨_,List.mem_map_of_mem hm,by rw [e1,e2,hsm,hdt],by rw [e2,hc.hd];omega⟩
 ·rw [List.pairwise_append]
  refine ⟨h.Ds,List.pairwise_singleton _ _,fun a ha b hb=>?_⟩
  rw [List.mem_singleton.1 hb]
  obtain ⟨u,r1,r2,r3⟩:=h.Dm a ha
  have hd:a.m.due=u.due:=by rw [r2];rfl
  have hb2:(dlvM s'.r.m s'.r.id t).due=t:=by rw [hsm,hdt];rfl
  rcases h.DL a ha _ (by rw [hc.L];exact List.mem_cons_self ..) with e|e
  ·exact .inl (by show a.m.due<(dlvM s'.r.m s'.r.id t).due;omega)
  ·by_cases hx:a.m.due<t
   ·exact .inl (by show a.m.due<(dlvM s'.r.m s'.r.id t).due;omega)
   ·exact .inr ⟨by show a.m.due=(dlvM s'.r.m s'.r.id t).due;omega,e⟩
 ·rcases List.mem_append.1 hr with q|q
  ·rw [hc.hd]
   exact h.DL r q a (by rw [hc.L];exact List.mem_cons_of_mem _ ha)
  ·rw [List.mem_singleton.1 q]
   exact .inr (h1 a ha)
 ·rw [List.length_append,List.length_singleton,hc.ws]
  omega
 ·rw [hc.ws]
  omega
theorem wpList_store_msg {ops:Array Oper} {rest:List Oper} {o:Oper} {a:Act} {w:World} {Q:Exit→Act→World→Prop} (hgd:o.guard=none) (x y:Operand) (ho:o.op = .store 36 x y) (g:Nat) (m1 m2 m3 m4 m5 m6:Int) (m7 m8 m9:ByteArray) (ka:Option Addr) (kn kc:Nat)
 (hx:a.eval x = .pointer (some ⟨g,0,none⟩)) (hy:a.eval y = .agg #[.int .i64 m1,.int .i64 m2,.int .i64 m3,.int .i64 m4,.int .i64 m5,.int .i64 m6,.string m7,.string m8,.string m9,.slice ka kn kc]) {old:Array Value} (hb:Box w g old) (hs:old.size=10)
 (h:wpList Tryz.prog ops Q rest (a.put o.dst undef) (w.setRow g #[.int .i64 m1,.int .i64 m2,.int .i64 m3,.int .i64 m4,.int .i64 m5,.int .i64 m6,.string m7,.string m8,.string m9,.slice ka kn kc])):wpList Tryz.prog ops Q (o :: rest) a w:=
 wpList_store_row hgd _ x y ho g _ hx hy _ old hb (by kernel_rfl) (by simpa using hs) (by simp [Value.oneCell']) h
end Go.Proofs.YtajmeimjaapagaaGreatDoor
