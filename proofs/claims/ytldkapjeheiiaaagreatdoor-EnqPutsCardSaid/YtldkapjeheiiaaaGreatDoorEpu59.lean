/- A part. -/
import Derived.Test.YtldkapjeheiiaaaGreatDoorEpu30
import Derived.Test.YtldkapjeheiiaaaGreatDoorEpu52
import Derived.Test.YtldkapjeheiiaaaGreatDoorEpu58
set_option linter.unusedVariables false
set_option linter.unusedSimpArgs false
namespace Go.Proofs.YtldkapjeheiiaaaGreatDoor
open Go.RowKit Go.Deep
def ienK (n:Int):List Value:=[.int .i64 n]
theorem info_k64:(Tryz.prog.info? 3).map (fun i=>(i.zero,i.size,i.bytes))=some (some (.int .i64 0),1,8):=by kernel_rfl
theorem layK:LayE 3 32 1 ienK where
 under:=Tryz.underlying32
 info:=by
  have h:=info_k64
  cases hi:Tryz.prog.info? 3 with
  | none=>rw [hi] at h;cases h
  | some i=>
   rw [hi] at h
   simp only [Option.map_some,Option.some.injEq,Prod.mk.injEq] at h
   exact ⟨i,_,rfl,h.1,h.2.1,rfl,by omega⟩
 len:=fun _=>rfl
 one:=fun x u hu=>by
  simp [ienK] at hu
  subst hu
  rfl
 pos:=by decide
structure EnG where
 x:TpG
 M:PM
 F:Nat→Prop
 n:Nat
 hd:Nat
 P:Nat
 cap:Nat
 ws:WL
 c:Nat
 v:Value
 L:List Int
structure EnB where
 eb:Nat
 tb:Nat
 sb:Nat
 mb:Nat
 lb:Nat
def EnG.part (B:EnB) (z:EnG) (i q:Nat):Prop:=match i with
 | 0=>q=B.eb
 | 1=>z.x.own B.tb q
 | 2=>q=B.sb∨q=B.mb
 | 3=>z.F q
 | 4=>z.v.ownBlock=some q
 | _=>False
def EnG.own (B:EnB) (z:EnG) (q:Nat):Prop:=∃ i,z.part B i q
def enqC (B:EnB) (c:Nat) (v:Value):Array Value:=#[.pointer (some ⟨B.tb,0,none⟩),.pointer (some ⟨B.sb,0,none⟩),.pointer (some ⟨B.lb,0,none⟩),.int .i64 (c:Int),v]
structure EnI (w0 w:World) (B:EnB) (z:EnG):Prop where
 at_:w.heap[B.eb]? = some (.cells (enqC B z.c z.v) 77 (0,0))
 low:w0.heap.size≤B.eb
 tp:TpI w0 w B.tb z.x
 pe:PeI w B.sb B.mb z.M
 plow:w0.heap.size≤B.sb∧w0.heap.size≤B.mb
 lg:TJ w0 w z.F B.lb z.n z.hd z.P z.cap z.ws
 row:GRow 3 1 ienK w z.v z.L
 rlow:∀ g,z.v.ownBlock=some g→w0.heap.size≤g
 ap:∀ i j,i≠j→∀ q,z.part B i q→¬ z.part B j q
variable {w0 w w':World} {B:EnB} {z z':EnG}
theorem EnI.lt (h:EnI w0 w B z):∀ q,z.own B q→q<w.heap.size:=fun q hq=>by
 obtain ⟨i,hi⟩:=hq
 match i,hi with
 | 0,hi=>exact (show q=B.eb from hi)▸(Array.getElem?_eq_some_iff.1 h.at_).1
 | 1,hi=>exact h.tp.lt q hi
 | 2,hi=>
  rcases (show q=B.sb∨q=B.mb from hi) with a|a
  ·rw [a];exact h.pe.lt.1
  ·rw [a];exact h.pe.lt.2
 | 3,hi=>exact (h.lg.low q hi).2
 | 4,hi=>exact h.row.lt q hi
theorem EnI.lowAll (h:EnI w0 w B z):∀ q,z.own B q→w0.heap.size≤q:=fun q hq=>by
 obtain ⟨i,hi⟩:=hq
 match i,hi with
 | 0,hi=>exact (show q=B.eb from hi)▸h.low
 | 1,hi=>exact h.tp.low q hi
 | 2,hi=>
  rcases (show q=B.sb∨q=B.mb from hi) with a|a
  ·rw [a];exact h.plow.1
  ·rw [a];exact h.plow.2
 | 3,hi=>exact (h.lg.low q hi).1
 | 4,hi=>exact h.rlow q hi
theorem EnI.away {S:Nat→Prop} (h:EnI w0 w B z) (hc:Chg S w w') (hS:∀ q,z.own B q→¬ S q) (hl:∀ q,S q→w0.heap.size≤q):EnI w0 w' B z:=
 ⟨hc.heap h.at_ (hS _ ⟨0,rfl⟩),h.low,h.tp.away hc (fun q hq=>hS q ⟨1,hq⟩) hl,h.pe.chg hc (hS _ ⟨2,.inl rfl⟩) (hS _ ⟨2,.inr rfl⟩),h.plow,
  h.lg.chgd hc (fun q hq=>hS q ⟨3,hq⟩) (fun q hq hx=>by have:=hl q hx;omega),h.row.chg hc (fun g hg=>hS g ⟨4,hg⟩),h.rlow,h.ap⟩
theorem EnI.new (h:EnI w0 w B z) (hc:Chg (fun _=>False) w w'):EnI w0 w' B z:=h.away hc (fun _ _ x=>x) (fun _ x=>x.elim)
theorem EnI.cells (h:EnI w0 w B z):w.cell? ⟨B.eb,0,none⟩=some (.pointer (some ⟨B.tb,0,none⟩))∧w.cell? ⟨B.eb,1,none⟩=some (.pointer (some ⟨B.sb,0,none⟩))∧w.cell? ⟨B.eb,2,none⟩=some (.pointer (some ⟨B.lb,0,none⟩)) ∧
 w.cell? ⟨B.eb,3,none⟩=some (.int .i64 (z.c:Int))∧w.cell? ⟨B.eb,4,none⟩=some z.v∧∀ i,w.frozen? ⟨B.eb,i,none⟩=false:=by
 have h:=h.at_
 refine ⟨?_,?_,?_,?_,?_,fun i=>?_⟩<;>simp [World.cell?,World.frozen?,h,enqC]
theorem EnI.turn (h:EnI w0 w B z) (i0:Nat) (hj:∀ j,j≠i0→z'.part B j=z.part B j) (hn:∀ q,z'.part B i0 q→z.part B i0 q∨w.heap.size≤q):∀ i j,i≠j→∀ q,z'.part B i q→¬ z'.part B j q:=by
 intro i j hij q hi hx
 by_cases e:i=i0
 ·subst e
  rw [hj j (Ne.symm hij)] at hx
  rcases hn q hi with a|a
  ·exact h.ap i j hij q a hx
  ·have:=h.lt q ⟨j,hx⟩;omega
 ·rw [hj i e] at hi
  by_cases e2:j=i0
  ·subst e2
   rcases hn q hx with a|a
   ·exact h.ap i j hij q hi a
   ·have:=h.lt q ⟨i,hi⟩;omega
  ·rw [hj j e2] at hx
   exact h.ap i j hij q hi hx
theorem qto_turn (i0:Nat) (hj:∀ j,j≠i0→z'.part B j=z.part B j) (hq:QTo w (z.part B i0) w' (z'.part B i0)):QTo w (z.own B) w' (z'.own B):=by
 refine ⟨hq.chg.wide (fun q _ a=>⟨i0,a⟩),fun q hx=>?_⟩
 obtain ⟨i,hi⟩:=hx
 by_cases e:i=i0
 ·subst e
  exact (hq.new q hi).imp (fun a=>⟨i,a⟩) id
 ·rw [hj i e] at hi
  exact .inl ⟨i,hi⟩
theorem EnI.tape (h:EnI w0 w B z) {x':TpG} (hx:TpI w0 w' B.tb x') (hq:QTo w (z.x.own B.tb) w' (x'.own B.tb)):EnI w0 w' B { z with x:=x' }∧QTo w (z.own B) w' (EnG.own B { z with x:=x' }):=by
 have hj:∀ j,j≠1→EnG.part B { z with x:=x' } j=z.part B j:=fun j hj=>by
  match j,hj with
  | 0,_=>rfl
  | 1,hj=>exact absurd rfl hj
  | 2,_=>rfl
  | 3,_=>rfl
  | 4,_=>rfl
  | _+5,_=>rfl
 have hq':QTo w (z.part B 1) w' (EnG.part B { z with x:=x' } 1):=hq
 refine ⟨⟨hq.chg.heap h.at_ (h.ap 0 1 (by decide) _ rfl),h.low,hx,h.pe.chg hq.chg (h.ap 2 1 (by decide) _ (.inl rfl)) (h.ap 2 1 (by decide) _ (.inr rfl)),h.plow,
  h.lg.chgd hq.chg (h.ap 3 1 (by decide)) (fun q hl hx=>by have:=h.tp.low q hx;omega),h.row.chg hq.chg (h.ap 4 1 (by decide)),h.rlow,h.turn 1 hj hq'.new⟩,qto_turn 1 hj hq'⟩
theorem EnI.pend (h:EnI w0 w B z) {M':PM} (hp:PeI w' B.sb B.mb M') (hc:Chg (fun q=>q=B.mb) w w'):EnI w0 w' B { z with M:=M' }∧QTo w (z.own B) w' (EnG.own B { z with M:=M' }):=by
 have ha:∀ i,i≠2→∀ q,z.part B i q→¬ q=B.mb:=fun i hi q hq e=>h.ap i 2 hi q hq (.inr e)
 have hj:∀ j,EnG.part B { z with M:=M' } j=z.part B j:=fun j=>by
  match j with
  | 0=>rfl
  | 1=>rfl
  | 2=>rfl
  | 3=>rfl
  | 4=>rfl
  | _+5=>rfl
 refine ⟨⟨hc.heap h.at_ (ha 0 (by decide) _ rfl),h.low,h.tp.away hc (ha 1 (by decide)) (fun q hx=>hx▸h.plow.2),hp,h.plow,
  h.lg.chgd hc (ha 3 (by decide)) (fun q hl hx=>by have:=h.plow.2;omega),h.row.chg hc (ha 4 (by decide)),h.rlow,fun i j hij q=>by rw [hj i,hj j];exact h.ap i j hij q⟩,⟨hc.wide (fun q _ a=>⟨2,.inr a⟩),fun q hq=>by
   obtain ⟨i,hi⟩:=hq
   rw [hj i] at hi
   exact .inl ⟨i,hi⟩⟩⟩
theorem EnI.log (h:EnI w0 w B z) {F':Nat→Prop} {n hd P:Nat} {ws:WL} (hl:TJ w0 w' F' B.lb n hd P z.cap ws) (hf:FTo z.F w F' w'):EnI w0 w' B { z with F:=F',n:=n,hd:=hd,P:=P,ws:=ws }∧QTo w (z.own B) w' (EnG.own B { z with F:=F',n:=n,hd:=hd,P:=P,ws:=ws }):=by
 have hj:∀ j,j≠3→EnG.part B { z with F:=F',n:=n,hd:=hd,P:=P,ws:=ws } j=z.part B j:=fun j hj=>by
  match j,hj with
  | 0,_=>rfl
  | 1,_=>rfl
  | 2,_=>rfl
  | 3,hj=>exact absurd rfl hj
  | 4,_=>rfl
  | _+5,_=>rfl
 have hq':QTo w (z.part B 3) w' (EnG.part B { z with F:=F',n:=n,hd:=hd,P:=P,ws:=ws } 3):=⟨hf.chg,hf.fp⟩
 refine ⟨⟨hf.chg.heap h.at_ (h.ap 0 3 (by decide) _ rfl),h.low,h.tp.away hf.chg (h.ap 1 3 (by decide)) (fun q hx=>(h.lg.low q hx).1),h.pe.chg hf.chg (h.ap 2 3 (by decide) _ (.inl rfl)) (h.ap 2 3 (by decide) _ (.inr rfl)),h.plow,
  hl,h.row.chg hf.chg (h.ap 4 3 (by decide)),h.rlow,h.turn 3 hj hq'.new⟩,qto_turn 3 hj hq'⟩
theorem EnI.set (h:EnI w0 w B z) (c:Nat):EnI w0 (w.setCell ⟨B.eb,3,none⟩ (.int .i64 (c:Int))) B { z with c:=c }∧QTo w (z.own B) (w.setCell ⟨B.eb,3,none⟩ (.int .i64 (c:Int))) (EnG.own B { z with c:=c }):=by
 have hch:Chg (fun q=>q=B.eb) w (w.setCell ⟨B.eb,3,none⟩ (.int .i64 (c:Int))):=Chg.setCell (S:=fun q=>q=B.eb) (p:=⟨B.eb,3,none⟩) (Chg.refl _ _) (fun _=>rfl) _
 have ha:∀ i,i≠0→∀ q,z.part B i q→¬ q=B.eb:=fun i hi q hq e=>h.ap i 0 hi q hq e
 have hj:∀ j,EnG.part B { z with c:=c } j=z.part B j:=fun j=>by
  match j with
  | 0=>rfl
  | 1=>rfl
  | 2=>rfl
  | 3=>rfl
  | 4=>rfl
  | _+5=>rfl
 refine ⟨⟨heap_setCell_same w B.eb 3 _ _ (.int .i64 (c:Int)) h.at_,h.low,h.tp.away hch (ha 1 (by decide)) (fun q hx=>hx▸h.low),h.pe.chg hch (ha 2 (by decide) _ (.inl rfl)) (ha 2 (by decide) _ (.inr rfl)),h.plow,
  h.lg.chgd hch (ha 3 (by decide)) (fun q hl hx=>by have:=h.low;omega),h.row.chg hch (ha 4 (by decide)),h.rlow,fun i j hij q=>by rw [hj i,hj j];exact h.ap i j hij q⟩,⟨hch.wide (fun q _ a=>⟨0,a⟩),fun q hq=>by
   obtain ⟨i,hi⟩:=hq
   rw [hj i] at hi
   exact .inl ⟨i,hi⟩⟩⟩
theorem EnI.lates (h:EnI w0 w B z) {w1:World} {v:Value} {L:List Int} (hc:Chg (fun q=>z.v.ownBlock=some q) w w1) (hr:GRow 3 1 ienK w1 v L) (hn:∀ q,v.ownBlock=some q→z.v.ownBlock=some q∨w.heap.size≤q) :
 EnI w0 (w1.setCell ⟨B.eb,4,none⟩ v) B { z with v:=v,L:=L }∧QTo w (z.own B) (w1.setCell ⟨B.eb,4,none⟩ v) (EnG.own B { z with v:=v,L:=L }):=by
 have hch:Chg (fun q=>q=B.eb) w1 (w1.setCell ⟨B.eb,4,none⟩ v):=Chg.setCell (S:=fun q=>q=B.eb) (p:=⟨B.eb,4,none⟩) (Chg.refl _ _) (fun _=>rfl) _
 have hcc:Chg (fun q=>q=B.eb∨z.v.ownBlock=some q) w (w1.setCell ⟨B.eb,4,none⟩ v):=(hc.wide (fun q _ a=>.inr a)).trans (hch.wide (fun q _ a=>.inl a)) (fun _ _ x=>x)
 have hj:∀ j,j≠4→EnG.part B { z with v:=v,L:=L } j=z.part B j:=fun j hj=>by
  match j,hj with
  | 0,_=>rfl
  | 1,_=>rfl
  | 2,_=>rfl
  | 3,_=>rfl
  | 4,hj=>exact absurd rfl hj
  | _+5,_=>rfl
 have ha:∀ i,i≠0→i≠4→∀ q,z.part B i q→¬ (q=B.eb∨z.v.ownBlock=some q):=fun i h0 h4 q hq e=>e.elim (h.ap i 0 h0 q hq) (h.ap i 4 h4 q hq)
 have hlow:∀ q,q=B.eb∨z.v.ownBlock=some q→w0.heap.size≤q:=fun q hx=>hx.elim (fun e=>e▸h.low) (h.rlow q)
 have hap:=h.turn (z':={ z with v:=v,L:=L }) 4 hj hn
 refine ⟨⟨?_,h.low,h.tp.away hcc (ha 1 (by decide) (by decide)) hlow,h.pe.chg hcc (ha 2 (by decide) (by decide) _ (.inl rfl)) (ha 2 (by decide) (by decide) _ (.inr rfl)),h.plow,
  h.lg.chgd hcc (ha 3 (by decide) (by decide)) (fun q hl hx=>by have:=hlow q hx;omega),hr.chg hch (fun g hg e=>hap 4 0 (by decide) g hg e),fun g hg=>?_,hap⟩,hcc.wide (fun q _ a=>a.elim (fun e=>⟨0,e⟩) (fun e=>⟨4,e⟩)),fun q hq=>?_⟩
 ·exact heap_setCell_same w1 B.eb 4 _ _ v (hc.heap h.at_ (h.ap 0 4 (by decide) _ rfl))
 ·rcases hn g hg with a|a
  ·exact h.rlow g a
  ·have:=h.lt _ ⟨0,rfl⟩
   have:=h.low
   omega
 ·obtain ⟨i,hi⟩:=hq
  by_cases e:i=4
  ·subst e
   exact (hn q hi).imp (fun a=>⟨4,a⟩) id
  ·rw [hj i e] at hi
   exact .inl ⟨i,hi⟩
theorem EnI.app (h:EnI w0 w B z) (x:Int) (hl:z.L.length≤1000):∃ v' w',(Builtin.append_ #[32,32] 32 #[z.v,.slice (some ⟨w.heap.size,0,none⟩) 1 1]).run Tryz.prog (w.alloc (.cells #[.int .i64 x] 3)) = .ok v' w' ∧
 (∀ i,w'.cell? ⟨B.eb,i,none⟩=w.cell? ⟨B.eb,i,none⟩)∧(∀ i,w'.frozen? ⟨B.eb,i,none⟩=false)∧EnI w0 (w'.setCell ⟨B.eb,4,none⟩ v') B { z with v:=v',L:=z.L ++ [x]}∧QTo w (z.own B) (w'.setCell ⟨B.eb,4,none⟩ v') (EnG.own B { z with v:=v',L:=z.L ++ [x]}):=by
 obtain ⟨W,hW⟩:∃ W,W=w.alloc (.cells #[.int .i64 x] 3):=⟨_,rfl⟩
 rw [←hW]
 have hc:Chg (fun _=>False) w W:=hW▸Chg.alloc _ (Chg.refl _ _) _
 have h1:=h.new hc
 have hcell:∀ j u,(ienK x)[j]? = some u→W.cell? ⟨w.heap.size,j,none⟩=some u:=fun j u hu=>by
  match j with
  | 0=>simp [ienK] at hu;subst hu;rw [hW];simp
  | j+1=>simp [ienK] at hu
 obtain ⟨v',w5,hrun,hA⟩:=gapp_g layK (w:=W) x (q:=w.heap.size) (c:=1) h1.row (by omega) hcell 32
 have hg:=Chg.of_grown (S:=fun q=>z.v.ownBlock=some q) hA.grown (fun q hq _=>hq)
 have hcg:Chg (fun q=>z.v.ownBlock=some q) w w5:=(hc.wide (fun _ _ x=>x.elim)).trans hg (fun _ _ x=>x)
 have hn:∀ q,v'.ownBlock=some q→z.v.ownBlock=some q∨w.heap.size≤q:=fun q hq=>by
  rcases hA.own with e|e
  ·rw [e] at hq;exact .inl hq
  ·rw [e] at hq
   injection hq with hq
   have:=hc.size
   exact .inr (by omega)
 have he:w5.heap[B.eb]? = _:=hcg.heap h.at_ (h.ap 0 4 (by decide) _ rfl)
 obtain ⟨k1,k2⟩:=h.lates hcg hA.row hn
 exact ⟨v',w5,hrun,fun i=>by simp [World.cell?,he,h.at_],fun i=>by simp [World.frozen?,he],k1,k2⟩
theorem enew_ok {w0 w:World} {tb:Nat} {x:TpG} (h:TpI w0 w tb x) (sb lb:Nat) :
 Calls Tryz.prog 22 #[.pointer (some ⟨tb,0,none⟩),.pointer (some ⟨sb,0,none⟩),.pointer (some ⟨lb,0,none⟩)] w fun e w'=>e = .returned (.tuple #[.pointer (some ⟨w.heap.size,0,none⟩),.int .i64 0])∧w'=w.alloc (.cells (enqC ⟨0,tb,sb,0,lb⟩ (1024*x.i0) (.slice none 0 0)) 77):=by
 have hB:=tbegin_any h.tg
 rw [h.rc.row.beg] at hB
 unfold enqC
 obtain ⟨c,hc⟩:∃ c:Int,c=((1024*x.i0:Nat):Int):=⟨_,rfl⟩
 rw [←hc] at hB ⊢
 have HB:=Lib.hid hB
 clear hB hc h
 go_enter Tryz.func22,Tryz.ntmps22
 go_wp2_with fail
 refine HB.out.mono ?_
 rintro e w1 ⟨rfl,rfl⟩
 go_wp2_with fail
 go_ret2
 exact ⟨rfl,rfl⟩
theorem elate_any {w0 w:World} {B:EnB} {z:EnG} (h:EnI w0 w B z):Calls Tryz.prog 21 #[.pointer (some ⟨B.eb,0,none⟩)] w fun e w'=>e = .returned z.v∧EnI w0 w' B { z with v:=.slice none 0 0,L:=[]}∧QTo w (z.own B) w' (EnG.own B { z with v:=.slice none 0 0,L:=[]})∧GRow 3 1 ienK w' z.v z.L∧(∀ q,z.v.ownBlock=some q→¬ EnG.own B { z with v:=.slice none 0 0,L:=[]} q)∧Chg (fun q=>q=B.eb) w w':=by
 obtain ⟨_,_,_,_,c4,fz⟩:=h.cells
 have f4:=fz 4
 obtain ⟨h1,h2⟩:=h.lates (Chg.refl _ _) (GRow.nil w) (fun q hq=>by cases hq)
 have hch:Chg (fun q=>q=B.eb) w (w.setCell ⟨B.eb,4,none⟩ (.slice none 0 0)):=Chg.setCell (S:=fun q=>q=B.eb) (p:=⟨B.eb,4,none⟩) (Chg.refl _ _) (fun _=>rfl) _
 have hr:=h.row.chg hch (fun g hg e=>h.ap 4 0 (by decide) g hg e)
 have hno:∀ q,z.v.ownBlock=some q→¬ EnG.own B { z with v:=.slice none 0 0,L:=[]} q:=fun q hq hx=>by
  obtain ⟨i,hi⟩:=hx
  match i,hi with
  | 0,hi=>exact h.ap 4 0 (by decide) q hq hi
  | 1,hi=>exact h.ap 4 1 (by decide) q hq hi
  | 2,hi=>exact h.ap 4 2 (by decide) q hq hi
  | 3,hi=>exact h.ap 4 3 (by decide) q hq hi
  | 4,hi=>cases hi
 have HE:=Lib.hid (And.intro h1 (And.intro h2 (And.intro hr (And.intro hno hch))))
 obtain ⟨eb,tb,sb,mb,lb⟩:=B
 dsimp only at *
 obtain ⟨V,hV⟩:∃ V,V=z.v:=⟨_,rfl⟩
 rw [←hV] at c4 HE ⊢
 clear h h1 h2 hch hr hno fz hV
 go_enter Tryz.func21,Tryz.ntmps21
 go_wp2_with fail
 go_ret
 exact ⟨rfl,HE.out⟩
structure RoomE (z:EnG):Prop where
 n:z.n≤800000
 room:96+20*(z.P / 16+1)≤z.cap
 L:z.L.length≤1000
structure EnterP (z z':EnG) (id due:Nat):Prop where
 x:z'.x=z.x
 M:z'.M=z.M
 c:z'.c=z.c
 hd:z'.hd=z.hd
 cap:z'.cap=z.cap
 n:z'.n=z.n+2
 P:z'.P=z.P+31
 ws:z'.ws=z.ws ++ if z.hd<due then [(due,id)] else []
 L:z'.L=z.L ++ if z.hd<due then [] else [(id:Int)]
set_option maxRecDepth 100000 in
theorem eenter_any {w0 w:World} {B:EnB} {z:EnG} (h:EnI w0 w B z) (ho:RoomE z) (id due:Nat) (hid:id≤1099511627776) (hdue:due≤1099511627776) :
 Calls Tryz.prog 78 #[.pointer (some ⟨B.eb,0,none⟩),.int .i64 (id:Int),.int .i64 (due:Int)] w fun e w'=>e = .returned (.int .i64 0)∧∃ z',EnI w0 w' B z'∧QTo w (z.own B) w' (z'.own B)∧EnterP z z' id due:=by
 obtain ⟨c0,c1,c2,c3,c4,fz⟩:=h.cells
 have f4:=fz 4
 have HH:=Lib.hid h.lg.hand
 have HI:=Lib.hid h
 have HO:=Lib.hid ho
 have hdl:=h.lg
 obtain ⟨eb,tb,sb,mb,lb⟩:=B
 dsimp only at *
 by_cases hlt:z.hd<due
 ·have HP:=Lib.hid (h.lg.put (by have:=ho.n;omega) due id hdue hid hlt ho.room)
  have hgt:(z.hd:Int)<(due:Int):=by omega
  have HE:Hid (∀ F' w',TJ w0 w' F' lb (z.n+2) z.hd (z.P+31) z.cap (z.ws ++ [(due,id)])→FTo z.F w F' w'→∃ z',EnI w0 w' ⟨eb,tb,sb,mb,lb⟩ z'∧QTo w (z.own ⟨eb,tb,sb,mb,lb⟩) w' (z'.own ⟨eb,tb,sb,mb,lb⟩)∧EnterP z z' id due):=Lib.hid (fun F' w' hT hF=>by
   obtain ⟨a,b⟩:=HI.out.log hT hF
   exact ⟨_,a,b,⟨rfl,rfl,rfl,rfl,rfl,rfl,rfl,by rw [if_pos hlt],by rw [if_pos hlt];simp⟩⟩)
  obtain ⟨hv,hhv⟩:∃ x:Int,x=(z.hd:Int):=⟨_,rfl⟩
  obtain ⟨dv,hdv⟩:∃ x:Int,x=(due:Int):=⟨_,rfl⟩
  rw [←hhv] at HH hgt
  rw [←hdv] at HP hgt ⊢
  clear h ho hlt hdue hid hhv hdv hdl c0 c1 c3 c4 f4 fz
  go_enter Tryz.func78,Tryz.ntmps78
  go_wp2_with fail
  refine HH.out.mono ?_
  rintro e w1 ⟨rfl,rfl⟩
  go_wp2_with fail
  refine HP.out.mono ?_
  rintro e w2 ⟨rfl,F',hT,hF⟩
  have HR:=Lib.hid (HE.out F' w2 hT hF)
  clear hT hF
  go_wp2_with fail
  go_ret
  exact ⟨rfl,HR.out⟩
 ·have hgt:¬ (z.hd:Int)<(due:Int):=by omega
  obtain ⟨v',w5,hrun,k1,k2,hI5,hq5⟩:=h.app (id:Int) ho.L
  obtain ⟨va,vc,hv'⟩:=hI5.row.len layK
  dsimp only at hv'
  generalize (z.L ++ [(id:Int)]).length=vn at hv'
  subst hv'
  have hmore:TJ w0 (w5.setCell ⟨eb,4,none⟩ (.slice va vn vc)) z.F lb (z.n+2) z.hd (z.P+31) z.cap z.ws:=hI5.lg.more (Nat.le_add_right _ _) (Nat.le_add_right _ _)
  have HE:Hid (∃ z',EnI w0 (w5.setCell ⟨eb,4,none⟩ (.slice va vn vc)) ⟨eb,tb,sb,mb,lb⟩ z'∧QTo w (z.own ⟨eb,tb,sb,mb,lb⟩) (w5.setCell ⟨eb,4,none⟩ (.slice va vn vc)) (z'.own ⟨eb,tb,sb,mb,lb⟩)∧EnterP z z' id due):=Lib.hid ⟨{ z with v:=.slice va vn vc,L:=z.L ++ [(id:Int)],n:=z.n+2,P:=z.P+31 },⟨hI5.at_,hI5.low,hI5.tp,hI5.pe,hI5.plow,hmore,hI5.row,hI5.rlow,hI5.ap⟩,hq5,⟨rfl,rfl,rfl,rfl,rfl,rfl,rfl,by rw [if_neg hlt];simp,by rw [if_neg hlt]⟩⟩
  have g4:w5.frozen? ⟨eb,4,none⟩=false:=k2 4
  have k4:w5.cell? ⟨eb,4,none⟩=some z.v:=(k1 4).trans c4
  obtain ⟨W,hW⟩:∃ W,W=w.alloc (.cells #[.int .i64 (id:Int)] 3):=⟨_,rfl⟩
  rw [←hW] at hrun
  have HRUN:=Lib.hid hrun
  have HW:=Lib.hid hW
  obtain ⟨hv,hhv⟩:∃ x:Int,x=(z.hd:Int):=⟨_,rfl⟩
  obtain ⟨dv,hdv⟩:∃ x:Int,x=(due:Int):=⟨_,rfl⟩
  obtain ⟨zv,hzv⟩:∃ x:Value,x=z.v:=⟨_,rfl⟩
  rw [←hhv] at HH hgt
  rw [←hdv] at hgt ⊢
  rw [←hzv] at HRUN k4 c4
  clear h ho hlt hdue hid hhv hdv hzv hdl c0 c1 c3 f4 fz hrun k1 k2 hI5 hq5 hmore hW
  go_enter Tryz.func78,Tryz.ntmps78
  go_wp2_with fail
  refine HH.out.mono ?_
  rintro e w1 ⟨rfl,rfl⟩
  go_wp2_with (at_builtin;rw [←HW.out];refine Lib.wpList_append_run _ rfl _ _ _ _ rfl _ _ rfl rfl _ _ HRUN.out ?_)
  go_ret
  exact ⟨rfl,HE.out⟩
def wsR (M:PM) (hd:Nat) (r:RcM):WL:=if stP M (r.id:Int)=1∧hd<r.m.due.toNat then [(r.m.due.toNat,r.id)] else []
def ltR (M:PM) (hd:Nat) (r:RcM):List Int:=if stP M (r.id:Int)=1∧¬ hd<r.m.due.toNat then [(r.id:Int)] else []
structure LookE (z z':EnG) (r:RcM) (c:Nat):Prop where
 x:z'.x=z.x
 M:z'.M=z.M
 c:z'.c=c
 hd:z'.hd=z.hd
 cap:z'.cap=z.cap
 n:z'.n=z.n+2
 P:z'.P=z.P+31
 ws:z'.ws=z.ws ++ wsR z.M z.hd r
 L:z'.L=z.L ++ ltR z.M z.hd r
set_option maxRecDepth 100000 in
theorem elook_any {w0 w:World} {B:EnB} {z:EnG} (h:EnI w0 w B z) (ho:RoomE z) (r:RcM) (c:Nat) (hid:r.id≤1099511627776) (hd0:0≤r.m.due) (hdue:r.m.due≤1099511627776) :
 Calls Tryz.prog 40 #[.pointer (some ⟨B.eb,0,none⟩),.int .i64 (r.id:Int),.int .i64 r.m.due,.int .i64 (c:Int)] w fun e w'=>e = .returned (.tuple #[.bool true,.int .i64 0])∧∃ z',EnI w0 w' B z'∧QTo w (z.own B) w' (z'.own B)∧LookE z z' r c:=by
 obtain ⟨c0,c1,c2,c3,c4,fz⟩:=h.cells
 have f3:=fz 3
 obtain ⟨due,hdu⟩:∃ due:Nat,r.m.due=(due:Int):=⟨r.m.due.toNat,by omega⟩
 have hdn:r.m.due.toNat=due:=by omega
 have HS:=Lib.hid (pstate_any h.pe (r.id:Int) (twf_nat _ (by omega)))
 by_cases hs:stP z.M (r.id:Int)=1
 ·have HE:=Lib.hid (eenter_any h ho r.id due hid (by omega))
  have HF:Hid (∀ w1 z1,EnI w0 w1 B z1→QTo w (z.own B) w1 (z1.own B)→EnterP z z1 r.id due→(∃ v,w1.cell? ⟨B.eb,3,none⟩=some v)∧w1.frozen? ⟨B.eb,3,none⟩=false∧∃ z',EnI w0 (w1.setCell ⟨B.eb,3,none⟩ (.int .i64 (c:Int))) B z'∧QTo w (z.own B) (w1.setCell ⟨B.eb,3,none⟩ (.int .i64 (c:Int))) (z'.own B)∧LookE z z' r c):=Lib.hid (fun w1 z1 a b d=>by
   obtain ⟨s1,s2⟩:=a.set c
   refine ⟨⟨_,a.cells.2.2.2.1⟩,a.cells.2.2.2.2.2 3,_,s1,b.trans s2,⟨d.x,d.M,rfl,d.hd,d.cap,d.n,d.P,?_,?_⟩⟩
   ·show z1.ws=_
    rw [d.ws];unfold wsR;rw [hdn];simp only [hs,true_and]
   ·show z1.L=_
    rw [d.L];unfold ltR;rw [hdn];simp only [hs,true_and]
    by_cases hx:z.hd<due<;>simp [hx])
  rw [hs] at HS
  obtain ⟨eb,tb,sb,mb,lb⟩:=B
  dsimp only at *
  rw [hdu]
  clear h ho hid hd0 hdue hdu hdn hs c0 c2 c3 c4 f3 fz
  go_enter Tryz.func40,Tryz.ntmps40
  go_wp2_with fail
  refine HS.out.mono ?_
  rintro e w1 ⟨rfl,rfl⟩
  go_wp2_with fail
  refine HE.out.mono ?_
  rintro e w2 ⟨rfl,z1,hz1,hz2,hz3⟩
  obtain ⟨⟨v3,q0⟩,q3,hR⟩:=HF.out w2 z1 hz1 hz2 hz3
  have HR:=Lib.hid hR
  clear hz1 hz2 hz3 hR c1
  go_wp2_with fail
  go_ret2
  exact ⟨rfl,HR.out⟩
 ·obtain ⟨s1,s2⟩:=h.set c
  have hmore:TJ w0 (w.setCell ⟨B.eb,3,none⟩ (.int .i64 (c:Int))) z.F B.lb (z.n+2) z.hd (z.P+31) z.cap z.ws:=s1.lg.more (by show z.n≤_;omega) (by show z.P≤_;omega)
  have HR:Hid (∃ z',EnI w0 (w.setCell ⟨B.eb,3,none⟩ (.int .i64 (c:Int))) B z'∧QTo w (z.own B) (w.setCell ⟨B.eb,3,none⟩ (.int .i64 (c:Int))) (z'.own B)∧LookE z z' r c):=Lib.hid ⟨{ z with c:=c,n:=z.n+2,P:=z.P+31 },⟨s1.at_,s1.low,s1.tp,s1.pe,s1.plow,hmore,s1.row,s1.rlow,s1.ap⟩,s2,⟨rfl,rfl,rfl,rfl,rfl,rfl,rfl,by show z.ws=_;unfold wsR;rw [if_neg (fun x=>hs x.1)];simp,by show z.L=_;unfold ltR;rw [if_neg (fun x=>hs x.1)];simp⟩⟩
  obtain ⟨sv,hsv⟩:∃ x:Int,x=stP z.M (r.id:Int):=⟨_,rfl⟩
  rw [←hsv] at HS hs
  obtain ⟨eb,tb,sb,mb,lb⟩:=B
  dsimp only at *
  have hsb:(sv == 1)=false:=by simpa using hs
  clear h ho hid hd0 hdue hdn s1 s2 hmore hsv c2 c4 fz
  rw [hdu]
  clear hdu
  go_enter Tryz.func40,Tryz.ntmps40
  go_wp2_with fail
  refine HS.out.mono ?_
  rintro e w1 ⟨rfl,rfl⟩
  go_wp2_with fail
  go_ret2
  exact ⟨rfl,HR.out⟩
def isS (M:MsgM):Bool:=M.kind == 2
def schd (l:List RcM):List RcM:=l.filter fun r=>isS r.m
def endOf (p:Nat) (l:List RcM):Nat:=l.foldl (fun _ r=>r.id+r.len) p
theorem endOf_snoc (p:Nat) (l:List RcM) (r:RcM):endOf p (l ++ [r])=r.id+r.len:=by simp [endOf]
theorem schd_app (l l':List RcM):schd (l ++ l')=schd l ++ schd l':=List.filter_append ..
theorem schd_one (r:RcM):schd [r]=if isS r.m=true then [r] else []:=by
 unfold schd
 rw [List.filter_cons]
 rfl
theorem schd_len (l:List RcM):(schd l).length≤l.length:=List.length_filter_le _ _
theorem nxt_suffix:∀ {done rest rs:List RcM} (h:rs.Pairwise (fun a b=>a.id+a.len≤b.id)) (hp:∀ r∈rs,0<r.len) {c:Nat},nxt rs c=done ++ rest→nxt rs (endOf c done)=rest
 | [],_,_,_,_,_,e=>e
 | r :: d,rest,rs,h,hp,c,e=>by
  have h1:=nxt_next h hp (r:=r) (rest:=d ++ rest) e
  exact nxt_suffix (done:=d) (c:=r.id+r.len) h hp h1
def RS (z:EnG):List RcM:=recsI (1024*z.x.i0) z.x.l
def curS (z:EnG):Nat:=max z.c (1024*z.x.i0)
def toDo (z:EnG):List RcM:=nxt (RS z) (curS z)
theorem due_ok {M:MsgM} {bs:List UInt8} (hp:putO M=some bs):0≤M.due∧M.due≤1099511627776:=by
 unfold putO at hp
 have hr:rightB M=true:=by
  cases h:rightB M with
  | true=>rfl
  | false=>rw [h] at hp;simp at hp
 unfold rightB at hr
 rw [Bool.and_eq_true] at hr
 exact allIn_iff.1 hr.1 M.due (by simp [MsgM.nums])
structure OnTape (x:TpG) (r:RcM):Prop where
 mem:r∈recsI (1024*x.i0) x.l
 end_:1024*x.i0+(bytesI x.l).length≤1000000000
theorem OnTape.size {w0 w:World} {tb:Nat} {x:TpG} {r:RcM} (h:OnTape x r) (hi:TpI w0 w tb x):(getK x.t.M (r.id:Int)).getD 0=(r.len:Int):=by
 have h1:((r.id:Int),(r.len:Int),r.m.born)∈notesI (1024*x.i0) x.l:=by
  rw [recsI_notes]
  exact List.mem_map.2 ⟨r,h.mem,rfl⟩
 rw [hi.tn.siz _ h1]
 rfl
theorem OnTape.put {w0 w:World} {tb:Nat} {x:TpG} {r:RcM} (h:OnTape x r) (hi:TpI w0 w tb x):r.m.kind≠0∧∃ bs,putO r.m=some bs∧r.len=bs.length∧3≤r.len∧r.len≤327∧1024*x.i0≤r.id∧r.id+r.len≤1024*x.i0+(bytesI x.l).length:=recsI_put hi.la' r h.mem
theorem OnTape.read {w0 w:World} {tb:Nat} {x:TpG} {r:RcM} (h:OnTape x r) (hi:TpI w0 w tb x):Calls Tryz.prog 38 #[.pointer (some ⟨tb,0,none⟩),.int .i64 (r.id:Int)] w (ReadTo r.m 0 w):=by
 obtain ⟨l1,bs,l2,e1,e2,e3,e4⟩:=recsI_split r h.mem
 have ht:=hi
 unfold TpI at ht
 have he:=h.end_
 rw [e1] at ht he
 rw [bytesI_app,List.length_append] at he
 rw [e3]
 exact ht.read e2 (by omega)
theorem ids_from {w0 w:World} {tb:Nat} {x:TpG} (hi:TpI w0 w tb x) (c:Nat):x.t.ids.drop (lowN x.t.ids (c:Int))=(nxt (recsI (1024*x.i0) x.l) c).map fun r=>(r.id:Int):=by
 have e:=hi.tn.ids
 rw [e]
 exact nxt_ids hi.la' c
theorem ids_len {w0 w:World} {tb:Nat} {x:TpG} (hi:TpI w0 w tb x) (hl:x.l.length≤1000000):x.t.ids.length≤1000000:=by
 have e2:x.t.ids.length=(notesI (1024*x.i0) x.l).length:=by
  have:=congrArg List.length hi.tn.ids
  rw [List.length_map] at this
  exact this
 have:=notesI_len (1024*x.i0) x.l
 omega
def AllE (z:EnG) (rest:List RcM):Prop:=rest=[]∨∃ r l,rest=r :: l∧z.x.m.synced≤(r.id:Int)
def StepTo (w0 w:World) (B:EnB) (z:EnG) (e:Ending) (w':World):Prop:=
 (∃ done rest,toDo z=done ++ rest∧schd done=[]∧AllE z rest∧e = .returned (.tuple #[.bool false,.int .i64 0])∧EnI w0 w' B { z with c:=endOf (curS z) done }∧QTo w (z.own B) w' (EnG.own B { z with c:=endOf (curS z) done })) ∨
 (∃ done r rest z',toDo z=done ++ r :: rest∧schd done=[]∧isS r.m=true∧(r.id:Int)<z.x.m.synced∧e = .returned (.tuple #[.bool true,.int .i64 0])∧EnI w0 w' B z'∧QTo w (z.own B) w' (z'.own B)∧LookE z z' r (r.id+r.len))
structure StepOk (z:EnG):Prop where
 end_:1024*z.x.i0+(bytesI z.x.l).length≤1000000000
 c:z.c≤1000000000
 l:z.x.l.length≤1000000
 room:RoomE z
set_option maxHeartbeats 8000000 in
set_option maxRecDepth 100000 in
theorem estep_any {w0 w:World} {B:EnB} {z:EnG} (h:EnI w0 w B z) (ho:StepOk z):Calls Tryz.prog 14 #[.pointer (some ⟨B.eb,0,none⟩)] w (StepTo w0 w B z):=by
 obtain ⟨c0,c1,c2,c3,c4,fz⟩:=h.cells
 have hend:=ho.end_
 have hcc:=ho.c
 have hi0:1024*z.x.i0≤1000000000:=by omega
 have hcur:curS z≤1000000000:=by unfold curS;omega
 have HB:Hid (Calls Tryz.prog 35 #[.pointer (some ⟨B.tb,0,none⟩)] w.drew fun e w'=>e = .returned (.int .i64 ((1024*z.x.i0:Nat):Int))∧w.drew=w'):=Lib.hid (by
  have:=tbegin_any (h.new (Chg.refl _ _).drew).tp.tg
  rw [h.tp.rc.row.beg] at this
  exact this)
 obtain ⟨s1,s2⟩:=(h.new (Chg.refl _ _).drew).set (curS z)
 have hs2:=(QTo.of_new (Chg.refl (fun _=>False) w).drew (F:=z.own B)).trans s2
 have hmax:max (z.c:Int) ((1024*z.x.i0:Nat):Int)=((curS z:Nat):Int):=by unfold curS;omega
 have HNX:Hid (∀ done rest,toDo z=done ++ rest→nxt (RS z) (endOf (curS z) done)=rest):=Lib.hid (fun done rest e=>nxt_suffix (recsI_sorted h.tp.la') (fun r hr=>by
  obtain ⟨_,_,_,_,b3,_⟩:=recsI_put h.tp.la' r hr
  omega) e)
 have HH:=Lib.hid h
 have HO:=Lib.hid ho
 obtain ⟨cm,hcm⟩:∃ x:Int,x=((curS z:Nat):Int):=⟨_,rfl⟩
 obtain ⟨zc,hzc⟩:∃ x:Int,x=(z.c:Int):=⟨_,rfl⟩
 obtain ⟨zi,hzi⟩:∃ x:Int,x=((1024*z.x.i0:Nat):Int):=⟨_,rfl⟩
 rw [←hcm] at s1 s2 hs2 hmax
 rw [←hzc] at c3 hmax
 rw [←hzi] at HB hmax
 have HS1:=Lib.hid s1
 have HS2:=Lib.hid hs2
 have HCM:=Lib.hid hcm
 obtain ⟨eb,tb,sb,mb,lb⟩:=B
 dsimp only at *
 have f3:=fz 3
 clear h ho s1 s2 hs2 hcm hzc hzi hend hcc hi0 c4 fz
 go_enter Tryz.func14,Tryz.ntmps14
 go_upto_region 3 with fail
 go_still_tail 13,(by kernel_rfl)
 repeat still_step
 still_call ((HB.out).mono fun _ _ h=>⟨h.1,h.2.symm⟩)
 repeat still_step
 refine wpStill_nil ?_
 change wpList _ _ _ _ _ w.drew
 have f3':w.drew.frozen? ⟨eb,3,none⟩=false:=f3
 have c3':w.drew.cell? ⟨eb,3,none⟩=some (.int .i64 zc):=c3
 clear c0 c1 c2 c3 f3
 generalize w.drew=w1 at HB HS1 HS2 f3' c3' ⊢
 obtain ⟨W2,hW2⟩:∃ W,W=w1.setCell ⟨eb,3,none⟩ (.int .i64 cm):=⟨_,rfl⟩
 rw [←hW2] at HS1 HS2
 have HW2:=Lib.hid hW2
 clear hW2
 have HSY:Hid (∀ W,Chg (fun _=>False) W2 W→Calls Tryz.prog 37 #[.pointer (some ⟨tb,0,none⟩)] W fun e w'=>e = .returned (.int .i64 z.x.m.synced)∧W=w'):=Lib.hid (fun W hW=>tsynced_any (HS1.out.new hW).tp.tg)
 have HN:Hid (∀ (W:World) (a:Nat) (rest:List RcM),Chg (fun _=>False) W2 W→nxt (RS z) a=rest→Calls Tryz.prog 36 #[.pointer (some ⟨tb,0,none⟩),.int .i64 (a:Int)] W fun e w'=>e = .returned (.tuple #[.int .i64 ((rest.map fun r=>(r.id:Int)).getD 0 0),.bool (!(rest.map fun r=>(r.id:Int)).isEmpty)])∧Chg (fun _=>False) W2 w'):=Lib.hid (fun W a rest hW hr=>by
  have hi:=(HS1.out.new hW).tp
  have:=tnext_any hi.tg.tape (le_of_lt' hi.sorted) (ids_len hi HO.out.l) (a:Int)
  refine this.mono ?_
  rintro e' w' ⟨rfl,q,rfl⟩
  have e:=ids_from hi a
  dsimp only at e
  rw [show nxt (recsI (1024*z.x.i0) z.x.l) a=rest from hr] at e
  refine ⟨?_,hW.trans (chg_drewN W q) (fun _ _ x=>x)⟩
  show Ending.returned (.tuple #[.int .i64 ((List.drop (lowN z.x.t.ids (a:Int)) z.x.t.ids).getD 0 0),.bool (!(List.drop (lowN z.x.t.ids (a:Int)) z.x.t.ids).isEmpty)])=_
  rw [e])
 obtain ⟨c0,d1,d2,c3,d4,fz⟩:=HS1.out.cells
 clear d1 d2 d4
 dsimp only at c0 c3 fz
 rw [←HCM.out] at c3
 go_upto_region 4 with fail
 rw [←HW2.out]
 clear hmax f3' c3'
 go_upto_region 5 with fail
 go_loopw [4] (fun at_ wr=>∃ (a:Nat) (done rest:List RcM),at_ = .int .i64 (a:Int)∧a≤1000000000∧Hid (toDo z=done ++ rest)∧Hid (schd done=[]∧a=endOf (curS z) done)∧Hid (Chg (fun _=>False) W2 wr)) (fun at_ _=>1000000000 - (intOf at_).toNat)
 case atStart=>exact ⟨curS z,[],toDo z,by rw [HCM.out],hcur,Lib.hid rfl,Lib.hid ⟨rfl,rfl⟩,Lib.hid (Chg.refl _ _)⟩
 case round=>
  obtain ⟨a,done,rest,rfl,ha,HT,HD,HC⟩:=hrel
  have hnx:=HNX.out done rest HT.out
  rw [←HD.out.2] at hnx
  have HNc:=Lib.hid (HN.out wr a rest HC.out hnx)
  have HF:Hid (∀ W,Chg (fun _=>False) W2 W→EnI w0 (W.setCell ⟨eb,3,none⟩ (.int .i64 (a:Int))) ⟨eb,tb,sb,mb,lb⟩ { z with c:=a }∧QTo w (z.own ⟨eb,tb,sb,mb,lb⟩) (W.setCell ⟨eb,3,none⟩ (.int .i64 (a:Int))) (EnG.own ⟨eb,tb,sb,mb,lb⟩ { z with c:=a })):=Lib.hid (fun W hW=>by
   obtain ⟨p1,p2⟩:=(HS1.out.new hW).set a
   exact ⟨p1,(HS2.out.trans (QTo.of_new hW)).trans p2⟩)
  have k0:wr.cell? ⟨eb,0,none⟩=some (.pointer (some ⟨tb,0,none⟩)):=HC.out.cell c0 (fun x=>x)
  clear hnx
  cases rest with
  | nil=>
   go_wp2_with fail
   refine HNc.out.mono ?_
   rintro e w3 ⟨rfl,hc3⟩
   have k3:w3.cell? ⟨eb,3,none⟩=some (.int .i64 cm):=hc3.cell c3 (fun x=>x)
   have f3:w3.frozen? ⟨eb,3,none⟩=false:=(HS1.out.new hc3).cells.2.2.2.2.2 3
   have HC3:=Lib.hid (HF.out w3 hc3)
   clear hc3 k0 c0 c3 fz
   go_wp2_with fail
   go_ret2
   exact .inl ⟨done,[],HT.out,HD.out.1,.inl rfl,rfl,by rw [←HD.out.2];exact HC3.out.1,by rw [←HD.out.2];exact HC3.out.2⟩
  | cons r rest=>
   have hrm:r∈RS z:=(nxt_sub (rs:=RS z) (c:=curS z) r (by show r∈toDo z;rw [HT.out];simp)).1
   have hon:OnTape z.x r:=⟨hrm,HO.out.end_⟩
   obtain ⟨_,bs,hp,hlen,b3,b327,b0,b1⟩:=hon.put HS1.out.tp
   have hdu:=due_ok hp
   have hrl:r.id+r.len≤1000000000:=by have:=HO.out.end_;omega
   have har:a≤r.id:=by
    have e:=HNX.out done (r :: rest) HT.out
    rw [←HD.out.2] at e
    exact (nxt_sub (rs:=RS z) (c:=a) r (by rw [e];exact List.mem_cons_self ..)).2
   obtain ⟨sy,hsy⟩:∃ x,x=z.x.m.synced:=⟨_,rfl⟩
   rw [←hsy] at HSY
   have HSYE:=Lib.hid hsy
   have HON:=Lib.hid hon
   obtain ⟨rid,hrid⟩:∃ x:Int,x=(r.id:Int):=⟨_,rfl⟩
   have hget:((r :: rest).map fun r=>(r.id:Int)).getD 0 0=rid:=by rw [hrid];rfl
   have hemp:(!((r :: rest).map fun r=>(r.id:Int)).isEmpty)=true:=rfl
   rw [hget,hemp] at HNc
   clear hsy hon hp hlen hget hemp b0 b1 hrm
   by_cases hge:sy≤rid
   ·have HGE:=Lib.hid hge
    have HRID:=Lib.hid hrid
    clear hrid
    go_wp2_with fail
    refine HNc.out.mono ?_
    rintro e w3 ⟨rfl,hc3⟩
    have k0':w3.cell? ⟨eb,0,none⟩=some (.pointer (some ⟨tb,0,none⟩)):=hc3.cell c0 (fun x=>x)
    have k3:w3.cell? ⟨eb,3,none⟩=some (.int .i64 cm):=hc3.cell c3 (fun x=>x)
    have f3:w3.frozen? ⟨eb,3,none⟩=false:=(HS1.out.new hc3).cells.2.2.2.2.2 3
    have HC3:=Lib.hid (HF.out w3 hc3)
    have HSc:=Lib.hid (HSY.out w3 hc3)
    clear hc3 k0 c0 c3 fz
    go_wp2_with fail
    refine HSc.out.mono ?_
    rintro e w4 ⟨rfl,rfl⟩
    go_wp2_with fail
    go_ret2
    exact .inl ⟨done,r :: rest,HT.out,HD.out.1,.inr ⟨r,rest,rfl,by rw [←HSYE.out,←HRID.out];exact HGE.out⟩,rfl,by rw [←HD.out.2];exact HC3.out.1,by rw [←HD.out.2];exact HC3.out.2⟩
   ·have hlt:(r.id:Int)<z.x.m.synced:=by rw [←HSYE.out,←hrid];omega
    have HLT:=Lib.hid hlt
    have HRID:=Lib.hid hrid
    clear hrid hlt
    go_wp2_with fail
    refine HNc.out.mono ?_
    rintro e w3 ⟨rfl,hc3⟩
    have k0':w3.cell? ⟨eb,0,none⟩=some (.pointer (some ⟨tb,0,none⟩)):=hc3.cell c0 (fun x=>x)
    have HSc:=Lib.hid (HSY.out w3 hc3)
    have HC3:=Lib.hid hc3
    clear hc3 k0
    go_wp2_with fail
    refine HSc.out.mono ?_
    rintro e w4 ⟨rfl,rfl⟩
    have HRD:=HON.out.read (HS1.out.new HC3.out).tp
    rw [←HRID.out] at HRD
    have HRD:=Lib.hid HRD
    obtain ⟨r0,rlen,m1,mq,m3,m4,m5,m6,m7,m8,m9,m10⟩:=r
    unfold ReadTo MsgM.val MsgM.cells at HRD
    dsimp only at *
    go_wp2_with fail
    refine HRD.out.mono ?_
    rintro e w5 ⟨vk,rfl,hst,hcp,hb5⟩
    obtain ⟨ka,kc,hva,_⟩:=id hst
    obtain ⟨nk,hnk⟩:∃ n,n=m10.length:=⟨_,rfl⟩
    rw [←hnk] at hva
    subst hva
    obtain ⟨W1,hW1⟩:∃ W,W=w5.alloc (.cells #[.int .i64 m1,.int .i64 mq,.int .i64 m3,.int .i64 m4,.int .i64 m5,.int .i64 m6,.string m7,.string m8,.string m9,.slice ka nk kc] 36):=⟨_,rfl⟩
    have hc1:Chg (fun _=>False) W2 W1:=HC3.out.trans (Chg.of_below (hW1▸hb5.alloc hb5.size _:Below w3.heap.size w3 W1)) (fun _ _ x=>x)
    have hbx:W1.heap[w5.heap.size]? = _:=hW1▸heap_alloc_new w5 _
    have q0:W1.cell? ⟨w5.heap.size,0,none⟩=some (.int .i64 m1):=by rw [Lib.cell_of_heap hbx];rfl
    have q2:W1.cell? ⟨w5.heap.size,2,none⟩=some (.int .i64 m3):=by rw [Lib.cell_of_heap hbx];rfl
    have k0:W1.cell? ⟨eb,0,none⟩=some (.pointer (some ⟨tb,0,none⟩)):=hc1.cell c0 (fun x=>x)
    have hi1:=HS1.out.new hc1
    have hsz:=tsize_any hi1.tp.tg.tape rid (by rw [HRID.out];exact twf_nat _ (by omega))
    have hsz2:=HON.out.size hi1.tp
    dsimp only at hsz2
    rw [←HRID.out] at hsz2
    dsimp only at hsz
    rw [hsz2] at hsz
    have HSZ:=Lib.hid hsz
    have HW1:=Lib.hid hW1
    have HC1:=Lib.hid hc1
    obtain ⟨bb,hbb⟩:∃ x,x=w5.heap.size:=⟨_,rfl⟩
    rw [←hbb] at q0 q2
    have HBB:=Lib.hid hbb
    have e5:IntKind.i64.wrap (rid+(rlen:Int))=((r0+rlen:Nat):Int):=by rw [HRID.out,IntWalk.i64_in _ (by omega)];omega
    clear hst hcp hnk hb5 hW1 hc1 hbx hi1 hsz hsz2 hbb k0' c3 c0 fz
    go_upto_region 10 with fail
    rw [←HW1.out,←HBB.out]
    cases hm1:isS ⟨m1,mq,m3,m4,m5,m6,m7,m8,m9,m10⟩ with
    | true=>
     have g2:m1=2:=by unfold isS at hm1;simpa using hm1
     subst g2
     have HLK:=elook_any (HS1.out.new HC1.out) (⟨HO.out.room.n,HO.out.room.room,HO.out.room.L⟩:RoomE { z with c:=curS z }) ⟨r0,rlen,⟨2,mq,m3,m4,m5,m6,m7,m8,m9,m10⟩⟩ (r0+rlen) (by show r0≤_;omega) hdu.1 hdu.2
     dsimp only at HLK
     rw [←HRID.out] at HLK
     obtain ⟨nc,hnc⟩:∃ x:Int,x=((r0+rlen:Nat):Int):=⟨_,rfl⟩
     rw [←hnc] at e5 HLK
     have HLK:=Lib.hid HLK
     have HM1:=Lib.hid hm1
     clear hnc hm1 hdu
     go_wp2_with fail
     refine HSZ.out.mono ?_
     rintro e w6 ⟨rfl,rfl⟩
     go_wp2_with fail
     refine HLK.out.mono ?_
     rintro e w7 ⟨rfl,z',p1,p2,p3⟩
     have HP:=Lib.hid (And.intro p1 (And.intro p2 p3))
     clear p1 p2 p3
     go_wp2_with fail
     go_ret2
     exact .inr ⟨done,⟨r0,rlen,⟨2,mq,m3,m4,m5,m6,m7,m8,m9,m10⟩⟩,rest,z',HT.out,HD.out.1,HM1.out,HLT.out,rfl,HP.out.1,(HS2.out.trans (QTo.of_new HC1.out)).trans HP.out.2.1,⟨HP.out.2.2.x,HP.out.2.2.M,HP.out.2.2.c,HP.out.2.2.hd,HP.out.2.2.cap,HP.out.2.2.n,HP.out.2.2.P,HP.out.2.2.ws,HP.out.2.2.L⟩⟩
    | false=>
     have g2:¬ m1=2:=fun e=>by unfold isS at hm1;simp [e] at hm1
     have g2':(m1 == 2)=false:=by simpa using g2
     have HD2:Hid (schd (done ++ [⟨r0,rlen,⟨m1,mq,m3,m4,m5,m6,m7,m8,m9,m10⟩⟩])=[]∧r0+rlen=endOf (curS z) (done ++ [⟨r0,rlen,⟨m1,mq,m3,m4,m5,m6,m7,m8,m9,m10⟩⟩])):=Lib.hid ⟨by rw [schd_app,HD.out.1,schd_one,if_neg (by rw [hm1];simp)];rfl,by rw [endOf_snoc]⟩
     have HT2:Hid (toDo z=(done ++ [⟨r0,rlen,⟨m1,mq,m3,m4,m5,m6,m7,m8,m9,m10⟩⟩]) ++ rest):=Lib.hid (by rw [HT.out];simp)
     clear hm1 hdu
     go_wp2_with fail
     refine HSZ.out.mono ?_
     rintro e w6 ⟨rfl,rfl⟩
     go_wp2_with fail
     exact ⟨⟨r0+rlen,_,rest,rfl,hrl,HT2,HD2,HC1⟩,by simp [intOf];omega⟩
theorem endOf_le {p E:Nat} {l:List RcM} (hp:p≤E) (h:∀ r∈l,r.id+r.len≤E):endOf p l≤E:=by
 unfold endOf
 induction l generalizing p with
 | nil=>exact hp
 | cons r l ih=>exact ih (h r (List.mem_cons_self ..)) fun x hx=>h x (List.mem_cons_of_mem _ hx)
theorem endOf_app (p:Nat) (l l':List RcM):endOf p (l ++ l')=endOf (endOf p l) l':=List.foldl_append ..
theorem nxt_zero (rs:List RcM):nxt rs 0=rs:=List.filter_eq_self.2 fun r _=>by simp
theorem wl_len (M:PM) (hd:Nat) (r:RcM):(wsR M hd r).length+(ltR M hd r).length≤1:=by
 unfold wsR ltR
 by_cases h:stP M (r.id:Int)=1<;>by_cases h2:hd<r.m.due.toNat<;>simp [h,h2]
structure EnA (w0 w:World) (B:EnB) (z:EnG) (done rest:List RcM) (k j:Nat):Prop where
 i:EnI w0 w B z
 rs:RS z=done ++ rest
 c:z.c=endOf 0 done
 i0:z.x.i0=0
 rl:(RS z).length≤k
 ll:z.x.l.length≤2*k
 xn:z.x.n≤4*k
 ok:(bytesI z.x.l).length % 1024≤1021
 len:(bytesI z.x.l).length≤1351*k
 xcap:z.x.st.cap=1048576
 xsz:z.x.st.size≤(bytesI z.x.l).length
 cap:z.cap=4194304
 n:z.n≤3+2*(schd done).length+2*j
 P:z.P≤31*(schd done).length+100*j
 ws:z.ws.length+z.L.length≤(schd done).length
 ml:z.M.length≤k
section
variable {w0 w w':World} {B:EnB} {z z':EnG} {done rest:List RcM} {k j:Nat}
theorem EnA.new (h:EnA w0 w B z done rest k j) (hc:Chg (fun _=>False) w w'):EnA w0 w' B z done rest k j:={ h with i:=h.i.new hc }
theorem EnA.away {S:Nat→Prop} (h:EnA w0 w B z done rest k j) (hc:Chg S w w') (hS:∀ q,z.own B q→¬ S q) (hl:∀ q,S q→w0.heap.size≤q):EnA w0 w' B z done rest k j:={ h with i:=h.i.away hc hS hl }
theorem EnA.chg (h:EnA w0 w B z done rest k j):Chg (fun _=>False) w0 w:=h.i.tp.tg.row.chg
theorem EnA.recs (h:EnA w0 w B z done rest k j):∀ r∈RS z,3≤r.len∧r.len≤327∧r.id+r.len≤(bytesI z.x.l).length∧r.m.kind≠0∧0≤r.m.due∧r.m.due≤1099511627776:=fun r hr=>by
 obtain ⟨a,bs,hp,b2,b3,b4,_,b1⟩:=recsI_put h.i.tp.la' r hr
 have:=due_ok hp
 rw [h.i0] at b1
 exact ⟨b3,b4,by omega,a,this⟩
theorem EnA.dl (h:EnA w0 w B z done rest k j):(schd done).length+rest.length≤k:=by
 have h1:=h.rl
 rw [h.rs,List.length_append] at h1
 have:=schd_len done
 omega
theorem EnA.room (h:EnA w0 w B z done rest k j) (hk:k≤200) (hj:j≤200):StepOk z:=by
 have h1:=h.dl
 have h2:=h.n
 have h3:=h.P
 have h4:=h.cap
 have h5:=h.ws
 have h6:=h.len
 have h7:=h.ll
 have h8:=h.i0
 have h9:z.c≤(bytesI z.x.l).length:=by
  rw [h.c]
  exact endOf_le (Nat.zero_le _) fun r hr=>(h.recs r (by rw [h.rs];exact List.mem_append_left _ hr)).2.2.1
 exact ⟨by omega,by omega,by omega,⟨by omega,by omega,by omega⟩⟩
theorem EnA.todo (h:EnA w0 w B z done rest k j):toDo z=rest:=by
 have h1:curS z=endOf 0 done:=by unfold curS;rw [h.i0,h.c];omega
 unfold toDo
 rw [h1]
 exact nxt_suffix (recsI_sorted h.i.tp.la') (fun r hr=>by have:=(h.recs r hr).1;omega) (by rw [nxt_zero];exact h.rs)
theorem EnA.more {k' j':Nat} (h:EnA w0 w B z done rest k j) (hk:k≤k') (hj:j≤j'):EnA w0 w B z done rest k' j':=
 { h with rl:=Nat.le_trans h.rl hk,ll:=(by have:=h.ll;omega),xn:=(by have:=h.xn;omega),len:=(by have:=h.len;omega),n:=(by have:=h.n;omega),P:=(by have:=h.P;omega),ml:=Nat.le_trans h.ml hk }
end
structure SameZ (z z':EnG):Prop where
 x:z'.x=z.x
 M:z'.M=z.M
 hd:z'.hd=z.hd
theorem SameZ.refl (z:EnG):SameZ z z:=⟨rfl,rfl,rfl⟩
theorem SameZ.trans {a b c:EnG} (h:SameZ a b) (k:SameZ b c):SameZ a c:=⟨k.x.trans h.x,k.M.trans h.M,k.hd.trans h.hd⟩
def ENextTo (w0 w:World) (B:EnB) (z:EnG) (done rest:List RcM) (k j:Nat) (e:Ending) (w':World):Prop:=
 (∃ d r z',rest=d ++ r∧schd d=[]∧AllE z r∧e = .returned (.tuple #[.bool false,.int .i64 0])∧EnA w0 w' B z' (done ++ d) r k j∧QTo w (z.own B) w' (z'.own B)∧SameZ z z'∧z'.ws=z.ws∧z'.L=z.L) ∨
 (∃ d r l z',rest=d ++ r :: l∧schd d=[]∧isS r.m=true∧(r.id:Int)<z.x.m.synced∧e = .returned (.tuple #[.bool true,.int .i64 0])∧EnA w0 w' B z' (done ++ (d ++ [r])) l k j∧QTo w (z.own B) w' (z'.own B)∧SameZ z z'∧z'.ws=z.ws ++ wsR z.M z.hd r∧z'.L=z.L ++ ltR z.M z.hd r)
theorem enext_any {w0 w:World} {B:EnB} {z:EnG} {done rest:List RcM} {k j:Nat} (h:EnA w0 w B z done rest k j) (hk:k≤200) (hj:j≤200):Calls Tryz.prog 14 #[.pointer (some ⟨B.eb,0,none⟩)] w (ENextTo w0 w B z done rest k j):=by
 have hcs:curS z=endOf 0 done:=by unfold curS;rw [h.i0,h.c];omega
 refine (estep_any h.i (h.room hk hj)).mono ?_
 rintro e w' (⟨d,r,h1,h2,h3,h4,h5,h6⟩|⟨d,r,l,z',h1,h2,h3,h4,h5,h6,h7,h8⟩)
 ·rw [h.todo] at h1
  refine .inl ⟨d,r,_,h1,h2,h3,h4,⟨h5,?_,?_,h.i0,h.rl,h.ll,h.xn,h.ok,h.len,h.xcap,h.xsz,h.cap,?_,?_,?_,h.ml⟩,h6,⟨rfl,rfl,rfl⟩,rfl,rfl⟩
  ·show RS z=_
   rw [h.rs,h1,List.append_assoc]
  ·show endOf (curS z) d=_
   rw [hcs,endOf_app]
  ·show z.n≤_
   rw [schd_app,h2,List.append_nil];exact h.n
  ·show z.P≤_
   rw [schd_app,h2,List.append_nil];exact h.P
  ·show z.ws.length+z.L.length≤_
   rw [schd_app,h2,List.append_nil];exact h.ws
 ·rw [h.todo] at h1
  have hsd:(schd (done ++ (d ++ [r]))).length=(schd done).length+1:=by
   rw [schd_app,schd_app,h2,schd_one,if_pos h3,List.length_append];rfl
  have hrs:RS z'=RS z:=by unfold RS;rw [h8.x]
  refine .inr ⟨d,r,l,z',h1,h2,h3,h4,h5,⟨h6,?_,?_,by rw [h8.x];exact h.i0,by rw [hrs];exact h.rl,by rw [h8.x];exact h.ll,by rw [h8.x];exact h.xn,by rw [h8.x];exact h.ok,by rw [h8.x];exact h.len,by rw [h8.x];exact h.xcap,by rw [h8.x];exact h.xsz,h8.cap.trans h.cap,?_,?_,?_,by rw [h8.M];exact h.ml⟩,h7,⟨h8.x,h8.M,h8.hd⟩,h8.ws,h8.L⟩
  ·rw [hrs,h.rs,h1];simp
  ·rw [h8.c,endOf_app,endOf_snoc]
  ·rw [h8.n,hsd];have:=h.n;omega
  ·rw [h8.P,hsd];have:=h.P;omega
  ·rw [h8.ws,h8.L,List.length_append,List.length_append,hsd]
   have:=h.ws
   have:=wl_len z.M z.hd r
   omega
def EAllTo (w0 w:World) (B:EnB) (z:EnG) (done rest:List RcM) (k j:Nat) (e:Ending) (w':World):Prop:=
 ∃ d r z',rest=d ++ r∧AllE z r∧e = .returned (.tuple #[.int .i64 ((schd d).length:Int),.int .i64 0])∧(∀ x∈schd d,(x.id:Int)<z.x.m.synced)∧EnA w0 w' B z' (done ++ d) r k j∧QTo w (z.own B) w' (z'.own B)∧SameZ z z'∧z'.ws=z.ws ++ (schd d).flatMap (wsR z.M z.hd)∧z'.L=z.L ++ (schd d).flatMap (ltR z.M z.hd)
set_option maxHeartbeats 4000000 in
set_option maxRecDepth 100000 in
theorem eall_any {w0 w:World} {B:EnB} {z:EnG} {done rest:List RcM} {k j:Nat} (h:EnA w0 w B z done rest k j) (hk:k≤200) (hj:j≤200):Calls Tryz.prog 15 #[.pointer (some ⟨B.eb,0,none⟩)] w (EAllTo w0 w B z done rest k j):=by
 have hmany:rest.length≤200:=by have:=h.dl;omega
 have H0:Hid (EnA w0 w B z (done ++ []) rest k j):=Lib.hid (by simpa using h)
 obtain ⟨N,hN⟩:∃ N,N=rest.length:=⟨_,rfl⟩
 have HN:=Lib.hid hN
 have hN1:N≤200:=by omega
 have HKJ:=Lib.hid (And.intro hk hj)
 clear h hmany hN hk hj
 go_enter Tryz.func15,Tryz.ntmps15
 go_wp2_with fail
 go_loopw [4] (fun n wr=>∃ (d r:List RcM) (z':EnG) (m:Nat),Hid (rest=d ++ r)∧n = .int .i64 (m:Int)∧Hid (m=(schd d).length)∧Hid (∀ x∈schd d,(x.id:Int)<z.x.m.synced)∧Hid (EnA w0 wr B z' (done ++ d) r k j)∧Hid (QTo w (z.own B) wr (z'.own B))∧Hid (SameZ z z')∧Hid (z'.ws=z.ws ++ (schd d).flatMap (wsR z.M z.hd)∧z'.L=z.L ++ (schd d).flatMap (ltR z.M z.hd))) (fun n _=>N - (intOf n).toNat)
 case atStart=>exact ⟨[],rest,z,0,Lib.hid rfl,rfl,Lib.hid rfl,Lib.hid (fun r hr=>by cases hr),H0,Lib.hid (QTo.refl _ _),Lib.hid (SameZ.refl z),Lib.hid ⟨by simp [schd],by simp [schd]⟩⟩
 case round=>
  obtain ⟨d,r,z',m,HT,rfl,HM,HS,HA,HQ,HX,HW⟩:=hrel
  have HC:=Lib.hid (enext_any HA.out HKJ.out.1 HKJ.out.2)
  have hmN:m≤N:=by
   have h1:=schd_len d
   rw [HM.out,HN.out,HT.out,List.length_append];omega
  go_wp2_with fail
  refine HC.out.mono ?_
  rintro e w1 (⟨d2,r2,z2,h1,h2,h3,rfl,h4,h5,h6,h7,h8⟩|⟨d2,x,l2,z2,h1,h2,h3,h3',rfl,h4,h5,h6,h7,h8⟩)
  ·have hsd:schd (d ++ d2)=schd d:=by rw [schd_app,h2,List.append_nil]
   have HE:Hid (EAllTo w0 w B z done rest k j (.returned (.tuple #[.int .i64 (m:Int),.int .i64 0])) w1):=Lib.hid ⟨d ++ d2,r2,z2,by rw [HT.out,h1,List.append_assoc],by
    unfold AllE at h3 ⊢
    rw [HX.out.x] at h3
    exact h3,by rw [hsd,HM.out],by rw [hsd];exact HS.out,by rw [←List.append_assoc];exact h4,HQ.out.trans h5,HX.out.trans h6,by rw [h7,hsd];exact HW.out.1,by rw [h8,hsd];exact HW.out.2⟩
   clear h1 h2 h3 h4 h5 h6 h7 h8 hsd
   go_wp2_with fail
   go_ret2
   exact HE.out
  ·have hsd:schd (d ++ (d2 ++ [x]))=schd d ++ [x]:=by rw [schd_app,schd_app,h2,schd_one,if_pos h3];rfl
   have HT2:Hid (rest=(d ++ (d2 ++ [x])) ++ l2):=Lib.hid (by rw [HT.out,h1];simp)
   have HM2:Hid (m+1=(schd (d ++ (d2 ++ [x]))).length):=Lib.hid (by rw [hsd,List.length_append,HM.out];rfl)
   have HS2:Hid (∀ y∈schd (d ++ (d2 ++ [x])),(y.id:Int)<z.x.m.synced):=Lib.hid (fun y hy=>by
    rw [hsd] at hy
    rcases List.mem_append.1 hy with a|a
    ·exact HS.out y a
    ·rw [List.mem_singleton] at a
     rw [a,←HX.out.x]
     exact h3')
   have HA2:Hid (EnA w0 w1 B z2 (done ++ (d ++ (d2 ++ [x]))) l2 k j):=Lib.hid (by rw [←List.append_assoc];exact h4)
   have HQ2:=Lib.hid (HQ.out.trans h5)
   have HX2:=Lib.hid (HX.out.trans h6)
   have HW2:Hid (z2.ws=z.ws ++ (schd (d ++ (d2 ++ [x]))).flatMap (wsR z.M z.hd)∧z2.L=z.L ++ (schd (d ++ (d2 ++ [x]))).flatMap (ltR z.M z.hd)):=Lib.hid (by
    rw [hsd,List.flatMap_append,List.flatMap_append,h7,h8,HW.out.1,HW.out.2,HX.out.M,HX.out.hd]
    simp)
   have hmN2:m+1≤N:=by
    have e:=congrArg List.length HT2.out
    have h1:=schd_len (d ++ (d2 ++ [x]))
    rw [List.length_append] at e
    rw [HN.out,HM2.out,e]
    omega
   clear h1 h2 h3 h3' h4 h5 h6 h7 h8 hsd
   go_wp2_with fail
   exact ⟨⟨_,l2,z2,m+1,HT2,by go_num,HM2,HS2,HA2,HQ2,HX2,HW2⟩,by simp [intOf];omega⟩
set_option maxRecDepth 100000 in
theorem esched_any {w0 w:World} {B:EnB} {z:EnG} (h:EnI w0 w B z) {r:RcM} (hr:OnTape z.x r):Calls Tryz.prog 48 #[.pointer (some ⟨B.eb,0,none⟩),.int .i64 (r.id:Int)] w fun e w'=>e = .returned (.bool (isS r.m))∧Chg (fun _=>False) w w':=by
 obtain ⟨c0,c1,c2,c3,c4,fz⟩:=h.cells
 have HRD:=Lib.hid (hr.read h.tp)
 obtain ⟨r0,rlen,m1,mq,m3,m4,m5,m6,m7,m8,m9,m10⟩:=r
 obtain ⟨eb,tb,sb,mb,lb⟩:=B
 unfold ReadTo MsgM.val MsgM.cells at HRD
 unfold isS
 dsimp only at *
 clear h hr c1 c2 c3 c4 fz
 go_enter Tryz.func48,Tryz.ntmps48
 go_wp2_with fail
 refine HRD.out.mono ?_
 rintro e w5 ⟨vk,rfl,hst,hcp,hb5⟩
 obtain ⟨ka,kc,hva,_⟩:=id hst
 obtain ⟨nk,hnk⟩:∃ n,n=m10.length:=⟨_,rfl⟩
 rw [←hnk] at hva
 subst hva
 obtain ⟨W1,hW1⟩:∃ W,W=w5.alloc (.cells #[.int .i64 m1,.int .i64 mq,.int .i64 m3,.int .i64 m4,.int .i64 m5,.int .i64 m6,.string m7,.string m8,.string m9,.slice ka nk kc] 36):=⟨_,rfl⟩
 have hc1:Chg (fun _=>False) w W1:=Chg.of_below (hW1▸hb5.alloc hb5.size _:Below w.heap.size w W1)
 have hbx:W1.heap[w5.heap.size]? = _:=hW1▸heap_alloc_new w5 _
 have q0:W1.cell? ⟨w5.heap.size,0,none⟩=some (.int .i64 m1):=by rw [Lib.cell_of_heap hbx];rfl
 have HW1:=Lib.hid hW1
 have HC1:=Lib.hid hc1
 clear hst hcp hnk hb5 hW1 hc1 hbx
 go_upto_region 2 with fail
 rw [←HW1.out]
 clear c0
 go_wp2_with fail
 go_ret
 exact ⟨rfl,HC1.out⟩
def leftN (z:EnG) (rest:List RcM):Nat:=((schd rest).filter fun r=>decide ((r.id:Int)<z.x.m.synced)).length
theorem left_at {z:EnG} {rest:List RcM} (hs:rest.Pairwise (fun a b=>a.id+a.len≤b.id)) {i:Nat} (h1:∀ r∈rest.take i,(r.id:Int)<z.x.m.synced) (h2:∀ r,rest[i]? = some r→z.x.m.synced≤(r.id:Int)):(schd (rest.take i)).length=leftN z rest:=by
 have e:rest=rest.take i ++ rest.drop i:=(List.take_append_drop i rest).symm
 have h3:(schd (rest.drop i)).filter (fun r=>decide ((r.id:Int)<z.x.m.synced))=[]:=List.filter_eq_nil_iff.2 fun r hr=>by
  have hm:r∈rest.drop i:=(List.mem_filter.1 hr).1
  cases hd:rest.drop i with
  | nil=>rw [hd] at hm;cases hm
  | cons x l=>
   have hx:rest[i]? = some x:=by
    have:=congrArg (·[0]?) hd
    simpa using this
   have hxs:=h2 x hx
   have hp:(x :: l).Pairwise (fun a b=>a.id+a.len≤b.id):=hd▸hs.sublist (List.drop_sublist i rest)
   rw [hd] at hm
   rcases List.mem_cons.1 hm with rfl|hm
   ·simp;omega
   ·have:=(List.pairwise_cons.1 hp).1 r hm
    simp;omega
 have h4:(schd (rest.take i)).filter (fun r=>decide ((r.id:Int)<z.x.m.synced))=schd (rest.take i):=List.filter_eq_self.2 fun r hr=>by
  have:=h1 r (List.mem_filter.1 hr).1
  simpa using this
 unfold leftN
 conv=>rhs;rw [e]
 rw [schd_app,List.filter_append,h3,h4,List.append_nil]
set_option maxHeartbeats 4000000 in
set_option maxRecDepth 100000 in
theorem eleft_any {w0 w:World} {B:EnB} {z:EnG} {done rest:List RcM} {k j:Nat} (h:EnA w0 w B z done rest k j) (hk:k≤200) (hj:j≤200) :
 Calls Tryz.prog 19 #[.pointer (some ⟨B.eb,0,none⟩)] w fun e w'=>e = .returned (.int .i64 (leftN z rest:Nat))∧Chg (fun _=>False) w w':=by
 obtain ⟨c0,d1,d2,c3,d4,fz⟩:=h.i.cells
 have hrl:rest.length≤200:=by have:=h.dl;omega
 have hsr:rest.Pairwise (fun a b=>a.id+a.len≤b.id):=by
  have:=recsI_sorted h.i.tp.la'
  have e:recsI (1024*z.x.i0) z.x.l=done ++ rest:=h.rs
  rw [e] at this
  exact (List.pairwise_append.1 this).2.1
 have hids:∀ {W:World},EnI w0 W B z→z.x.t.ids.drop (lowN z.x.t.ids ((z.c:Nat):Int))=rest.map fun r=>(r.id:Int):=fun hi=>by
  rw [ids_from hi.tp z.c]
  have e:=h.todo
  have hcs:curS z=z.c:=by unfold curS;rw [h.i0];omega
  unfold toDo at e
  rw [hcs] at e
  rw [show nxt (recsI (1024*z.x.i0) z.x.l) z.c=rest from e]
 have hon:∀ i r,rest[i]? = some r→OnTape z.x r∧r.id≤1000000000:=fun i r hr=>by
  have hm:r∈RS z:=by rw [h.rs];exact List.mem_append_right _ (List.mem_of_getElem? hr)
  have e1:=(h.room hk hj).end_
  have e2:=h.recs r hm
  have e3:=h.i0
  exact ⟨⟨hm,e1⟩,by omega⟩
 have HI:Hid (∀ W,Chg (fun _=>False) w W→Calls Tryz.prog 47 #[.pointer (some ⟨B.tb,0,none⟩),.int .i64 (z.c:Int)] W fun e w'=>∃ a cap,e = .returned (.slice a rest.length cap)∧(∀ i r,rest[i]? = some r→∃ g,a=some ⟨g,0,none⟩∧g<w'.heap.size∧w'.cell? ⟨g,i,none⟩=some (.int .i64 (r.id:Int)))∧Chg (fun _=>False) w w'):=Lib.hid (fun W hW=>by
  have hi:=h.i.new hW
  refine (tids_any hi.tp.tg.tape (le_of_lt' hi.tp.sorted) (ids_len hi.tp (h.room hk hj).l) ((z.c:Nat):Int)).mono ?_
  rintro e w' ⟨v,rfl,ho,hb⟩
  rw [hids hi,List.length_map] at ho
  have hlen:=ho.1
  rcases ho.2 with ⟨rfl,h0⟩|⟨g,cap,cur,rfl,hbase,hbk,h1,h2,h3,h4⟩
  ·rw [h0]
   have e0:rest=[]:=List.length_eq_zero_iff.1 h0
   exact ⟨none,0,rfl,fun i r hr=>by rw [e0] at hr;simp at hr,hW.trans (Chg.of_below hb) (fun _ _ x=>x)⟩
  ·refine ⟨_,cap,rfl,fun i r hr=>⟨g,rfl,(Array.getElem?_eq_some_iff.1 hbk).1,?_⟩,hW.trans (Chg.of_below hb) (fun _ _ x=>x)⟩
   have hil:=(List.getElem?_eq_some_iff.1 hr).1
   have e1:(cur.toList.take (rest.length*1))[i]? = ((rest.map fun r=>(r.id:Int)).map (Value.int .i64))[i]?:=by rw [h4]
   rw [List.getElem?_take,if_pos (by omega),Array.getElem?_toList,List.getElem?_map,List.getElem?_map,hr] at e1
   simp only [World.cell?,hbk]
   exact e1)
 have HS:Hid (∀ W,Chg (fun _=>False) w W→Calls Tryz.prog 37 #[.pointer (some ⟨B.tb,0,none⟩)] W fun e w'=>e = .returned (.int .i64 z.x.m.synced)∧W=w'):=Lib.hid (fun W hW=>tsynced_any (h.i.new hW).tp.tg)
 have HSD:Hid (∀ W r,Chg (fun _=>False) w W→OnTape z.x r→Calls Tryz.prog 48 #[.pointer (some ⟨B.eb,0,none⟩),.int .i64 (r.id:Int)] W fun e w'=>e = .returned (.bool (isS r.m))∧Chg (fun _=>False) W w'):=Lib.hid (fun W r hW hr=>esched_any (h.i.new hW) hr)
 obtain ⟨sy,hsy⟩:∃ x,x=z.x.m.synced:=⟨_,rfl⟩
 rw [←hsy] at HS
 have HSY:=Lib.hid hsy
 have HON:=Lib.hid hon
 have HSR:=Lib.hid hsr
 obtain ⟨zc,hzc⟩:∃ x:Int,x=(z.c:Int):=⟨_,rfl⟩
 rw [←hzc] at HI c3
 obtain ⟨eb,tb,sb,mb,lb⟩:=B
 dsimp only at *
 obtain ⟨N,hN⟩:∃ N,N=rest.length:=⟨_,rfl⟩
 rw [←hN] at HI hrl
 have HN:=Lib.hid hN
 clear d1 d2 d4 fz h hids hon hsr hsy hzc hN hk hj
 go_enter Tryz.func19,Tryz.ntmps19
 go_upto_region 4 with fail
 go_cut [16,17,18] (fun v16 v17 v18 wx=>∃ a cap,v16 = .slice a N cap∧v17 = .int .i64 (N:Int)∧v18 = .int .i64 0∧Hid (∀ i r,rest[i]? = some r→∃ g,a=some ⟨g,0,none⟩∧g<wx.heap.size∧wx.cell? ⟨g,i,none⟩=some (.int .i64 (r.id:Int)))∧Hid (Chg (fun _=>False) w wx))
 case first=>
  go_region_held3 (fun w'=>w'.cell? ⟨eb,0,none⟩=some (.pointer (some ⟨tb,0,none⟩))∧w'.cell? ⟨eb,3,none⟩=some (.int .i64 zc))
   (first|exact ⟨c0,c3⟩|go_keep)
   (first
    | (go_at_call 47
       refine (HI.out _ ?_).mono ?_
       ·repeat (first|exact Chg.refl _ _|with_reducible refine Chg.drew ?_|with_reducible refine Chg.drewN ?_ _)
       rintro e w3 ⟨a3,cap3,rfl,ho,hcc⟩
       have c0:=hcc.cell c0 (fun x=>x)
       have c3:=hcc.cell c3 (fun x=>x)
       have HO:=Lib.hid ho
       have HCC:=Lib.hid hcc
       clear hcc ho))
  all_goals
   go_wp2_with fail
   go_meet
   case rel=>exact ⟨a3,cap3,rfl,rfl,rfl,Lib.hid (fun i r hr=>by
    obtain ⟨g,e1,e2,e3⟩:=HO.out i r hr
    exact ⟨g,e1,e2,e3⟩),Lib.hid (by repeat (first|exact HCC.out|with_reducible refine Chg.drew ?_|with_reducible refine Chg.drewN ?_ _))⟩
 case rest=>
  obtain ⟨a,cap,rfl,rfl,rfl,HO,HC⟩:=hcut
  go_wp2_with fail
  go_loopw [3,18] (fun n i wr=>∃ (ii m:Nat),n = .int .i64 (m:Int)∧i = .int .i64 (ii:Int)∧ii≤N∧m≤ii∧Hid (m=(schd (rest.take ii)).length)∧Hid (∀ r∈rest.take ii,(r.id:Int)<z.x.m.synced)∧Hid (Chg (fun _=>False) wc wr)) (fun _ i _=>N - (intOf i).toNat)
  case atStart=>exact ⟨0,0,rfl,rfl,Nat.zero_le _,Nat.le_refl _,Lib.hid (by simp [schd]),Lib.hid (by simp),Lib.hid (Chg.refl _ _)⟩
  case round=>
   obtain ⟨ii,m,rfl,rfl,hii,hmi,HM,HT,HR⟩:=hrel
   by_cases hlt:ii<N
   ·obtain ⟨r,hr⟩:∃ r,rest[ii]? = some r:=⟨_,List.getElem?_eq_getElem (by rw [←HN.out];exact hlt)⟩
    obtain ⟨g,ha,hg,hcell⟩:=HO.out ii r hr
    subst ha
    have hcr:=HR.out.cell hcell (fun x=>x)
    have hcw:=HC.out.trans HR.out (fun _ _ x=>x)
    have HSc:=Lib.hid (HS.out wr hcw)
    have HDc:=Lib.hid (HSD.out wr r hcw (HON.out ii r hr).1)
    have k0:wr.cell? ⟨eb,0,none⟩=some (.pointer (some ⟨tb,0,none⟩)):=hcw.cell c0 (fun x=>x)
    have HRR:=Lib.hid hr
    have htk:rest.take (ii+1)=rest.take ii ++ [r]:=by
     rw [List.take_add_one,hr];rfl
    have HTK:=Lib.hid htk
    obtain ⟨rid,hrid⟩:∃ x:Int,x=(r.id:Int):=⟨_,rfl⟩
    rw [←hrid] at hcr HDc
    have HRID:=Lib.hid hrid
    clear hr hcell hcw htk hrid
    have hlt':(ii:Int)<(N:Int):=by omega
    by_cases hge:sy≤rid
    ·have HGE:=Lib.hid hge
     have HE:Hid (m=leftN z rest):=Lib.hid (by
      rw [HM.out]
      refine left_at HSR.out HT.out (fun x hx=>?_)
      rw [HRR.out] at hx
      injection hx with hx
      rw [←hx,←HSY.out,←HRID.out]
      exact HGE.out)
     go_wp2_with fail
     refine HSc.out.mono ?_
     rintro e w4 ⟨rfl,rfl⟩
     go_wp2_with fail
     go_ret
     exact ⟨by rw [HE.out];rfl,HC.out.trans HR.out (fun _ _ x=>x)⟩
    ·have HT2:Hid (∀ x∈rest.take (ii+1),(x.id:Int)<z.x.m.synced):=Lib.hid (fun x hx=>by
      rw [HTK.out] at hx
      rcases List.mem_append.1 hx with a|a
      ·exact HT.out x a
      ·rw [List.mem_singleton] at a
       rw [a,←HSY.out,←HRID.out]
       omega)
     cases hs:isS r.m with
     | true=>
      rw [hs] at HDc
      have HM2:Hid (m+1=(schd (rest.take (ii+1))).length):=Lib.hid (by rw [HTK.out,schd_app,schd_one,if_pos hs,List.length_append,HM.out];rfl)
      clear hs
      go_wp2_with fail
      refine HSc.out.mono ?_
      rintro e w4 ⟨rfl,rfl⟩
      go_wp2_with fail
      refine HDc.out.mono ?_
      rintro e w5 ⟨rfl,hc5⟩
      have HR5:Hid (Chg (fun _=>False) wc w5):=Lib.hid (HR.out.trans hc5 (fun _ _ x=>x))
      clear hc5
      go_wp2_with fail
      exact ⟨⟨ii+1,m+1,by go_num,by go_num,by omega,by omega,HM2,HT2,HR5⟩,by simp [intOf];omega⟩
     | false=>
      rw [hs] at HDc
      have HM2:Hid (m=(schd (rest.take (ii+1))).length):=Lib.hid (by rw [HTK.out,schd_app,schd_one,if_neg (by rw [hs];simp),List.append_nil];exact HM.out)
      clear hs
      go_wp2_with fail
      refine HSc.out.mono ?_
      rintro e w4 ⟨rfl,rfl⟩
      go_wp2_with fail
      refine HDc.out.mono ?_
      rintro e w5 ⟨rfl,hc5⟩
      have HR5:Hid (Chg (fun _=>False) wc w5):=Lib.hid (HR.out.trans hc5 (fun _ _ x=>x))
      clear hc5
      go_wp2_with fail
      exact ⟨⟨ii+1,m,rfl,by go_num,by omega,by omega,HM2,HT2,HR5⟩,by simp [intOf];omega⟩
   ·obtain rfl:ii=N:=by omega
    have HE:Hid (m=leftN z rest):=Lib.hid (by
     rw [HM.out]
     refine left_at HSR.out HT.out (fun x hx=>?_)
     rw [List.getElem?_eq_none (by rw [←HN.out];exact Nat.le_refl _)] at hx
     cases hx)
    go_wp2_with fail
    go_ret
    exact ⟨by rw [HE.out];rfl,HC.out.trans HR.out (fun _ _ x=>x)⟩
theorem TapeG.base {w0 w1 w:World} {tb:Nat} {t:TapeM} {g:Gh} {st:St} {m:RowM} (h:TapeG w1 w tb t g st m) (hc:Chg (fun _=>False) w0 w1) (ht:Tab10 w0):TapeG w0 w tb t g st m:=by
 have hs:=hc.size
 refine ⟨⟨h.row.disk,h.row.row,h.row.out,hc.trans h.row.chg (fun _ _ x=>x),fun k hk=>Nat.le_trans hs (h.row.low k hk),Nat.le_trans hs h.row.lowb,ht⟩,⟨h.tape.at_,h.tape.tab,h.tape.map,?_,h.tape.apart,fun q hq=>Nat.le_trans hs (h.tape.low q hq)⟩,h.out⟩
 rcases h.tape.own with a|⟨g1,o,cap,a1,a2,a3⟩
 ·exact .inl a
 ·exact .inr ⟨g1,o,cap,a1,Nat.le_trans hs a2,a3⟩
theorem tapeI_new {w0 w:World} {tb:Nat} {t:TapeM} {g:Gh} {st:St} {m:RowM} (h:TapeG w0 w tb t g st m) (h1:t.ids=[]) (h2:t.M=[]) (hh:m.head=tH) (hk:RowC 0 m st 1024 0 0 []):TapeI w0 w tb t g st m 0 0 0 []:=
 ⟨h,hk,hh,trivial,⟨h1,fun x hx=>(by cases hx),fun k _=>(by rw [h2];rfl),fun x hx=>(by cases hx),by rw [h2];exact Nat.le_refl _⟩⟩
theorem TJ.of_new {w1 w:World} {F:Nat→Prop} {lb hd cap:Nat} (h:LgS w1 w F lb 3 (hd:Int) 0 cap noC):TJ w1 w F lb 3 hd 0 cap []:=⟨⟨noC,0,h,RelC.none,Nat.le_refl _⟩,fun p hp=>by cases hp⟩
theorem TJ.base {w0 w1 w:World} {F:Nat→Prop} {lb n hd P cap:Nat} {ws:WL} (h:TJ w1 w F lb n hd P cap ws) (hc:Chg (fun _=>False) w0 w1):TJ w0 w F lb n hd P cap ws:=by
 obtain ⟨C,cnt,⟨wb,g,st,L,ms,e,hC,h1,h2⟩,h3,h4⟩:=h.ex
 have hs:=hc.size
 have hw:=hC.i.wh
 exact ⟨⟨C,cnt,⟨wb,g,st,L,ms,e,⟨⟨⟨hw.disk,hc.trans hw.chg (fun _ _ x=>x),fun q hq=>Nat.le_trans hs (hw.glow q hq),hw.ease,hw.cell,Nat.le_trans hs hw.low,hw.out,hw.file,hw.len,hw.ok⟩,hC.i.cell,Nat.le_trans hs hC.i.low,hC.i.out,hC.i.ne,hC.i.file,hC.i.ok,hC.i.size⟩,hC.chain⟩,h1,h2⟩,h3,h4⟩,h.later⟩
def EMadeTo (w:World) (hand:Nat) (e:Ending) (w':World):Prop:=∃ B z,e = .returned (.tuple #[.agg #[.pointer (some ⟨B.tb,0,none⟩),.pointer (some ⟨B.sb,0,none⟩),.pointer (some ⟨B.lb,0,none⟩),.pointer (some ⟨B.eb,0,none⟩)],.bool true])∧EnA w w' B z [] [] 0 0∧z.x.l=[]∧z.x.m.synced=0∧z.M=[]∧z.hd=hand∧z.ws=[]∧z.L=[]
theorem emade_all {w W0 w3 w5 w6 w7:World} {tb sb mb lb hand:Nat} {F:Nat→Prop} {t:TapeM} {g:Gh} {st:St} {m:RowM} (ht:Tab10 w) (hc0:Chg (fun _=>False) w W0) (hc3:Chg (fun _=>False) W0 w3)
 (hT:TapeG W0 w3 tb t g st m) (t1:t.ids=[]) (t2:t.M=[]) (t3:m.head=tH) (t4:m.synced=0) (t5:RowC 0 m st 1024 0 0 []) (t6:st.cap=1048576) (t7:st.size=0)
 (hl:LgS w3 w5 F lb 3 (hand:Int) 0 4194304 noC) (hp:PeI w6 sb mb []) (hb6:Below w5.heap.size w5 w6) (hsb:w5.heap.size≤sb) (hmb:w5.heap.size≤mb)
 (h7:w7=w6.alloc (.cells (enqC ⟨0,tb,sb,0,lb⟩ (1024*0) (.slice none 0 0)) 77)) :
 ∃ z,TpI w w6 tb z.x∧z.x.i0=0∧(∀ q,z.own ⟨w6.heap.size,tb,sb,mb,lb⟩ q→W0.heap.size≤q)∧EnA w w7 ⟨w6.heap.size,tb,sb,mb,lb⟩ z [] [] 0 0∧z.x.l=[]∧z.x.m.synced=0∧z.M=[]∧z.hd=hand∧z.ws=[]∧z.L=[]:=by
 have hT0:=hT.base hc0 ht
 have hown:∀ q,(q∈t.foot tb∨q=t.rb∨q∈g.fp)→W0.heap.size≤q∧q<w3.heap.size:=fun q hq=>by
  rcases hq with a|a|a
  ·exact ⟨hT.tape.low q a,hT.tape.lt q a⟩
  ·rw [a];exact ⟨hT.row.lowb,hT.row.row.lt⟩
  ·exact ⟨hT.row.low q a,hT.row.disk.lt q a⟩
 have hT3:TapeI w w3 tb t g st m 0 0 0 []:=tapeI_new hT0 t1 t2 t3 t5
 have hc5:Chg (fun _=>False) w3 w5:=Chg.of_below hl.below
 have hc6:Chg (fun _=>False) w5 w6:=Chg.of_below hb6
 have hc7:Chg (fun _=>False) w6 w7:=h7▸Chg.alloc _ (Chg.refl _ _) _
 have hT6:=TpI.new (x:=⟨t,g,st,m,0,0,0,[]⟩) (TpI.new (x:=⟨t,g,st,m,0,0,0,[]⟩) hT3 hc5) hc6
 have hw3:Chg (fun _=>False) w w3:=hc0.trans hc3 (fun _ _ x=>x)
 have hJ5:=(TJ.of_new hl).base hw3
 have hJ7:=(hJ5.new hc6).new hc7
 have hlow:=hl.low
 have s0:=hc0.size
 have s3:=hc3.size
 have s5:=hc5.size
 have s6:=hc6.size
 have hpl:=hp.lt
 have key:∀ i q,EnG.part ⟨w6.heap.size,tb,sb,mb,lb⟩ ⟨⟨t,g,st,m,0,0,0,[]⟩,[],F,3,hand,0,4194304,[],0,.slice none 0 0,[]⟩ i q→(i=0∧q=w6.heap.size)∨(i=1∧W0.heap.size≤q∧q<w3.heap.size)∨(i=2∧w5.heap.size≤q∧q<w6.heap.size)∨(i=3∧w3.heap.size≤q∧q<w5.heap.size):=fun i q hi=>by
  match i,hi with
  | 0,hi=>exact .inl ⟨rfl,hi⟩
  | 1,hi=>exact .inr (.inl ⟨rfl,hown q hi⟩)
  | 2,hi=>
   refine .inr (.inr (.inl ⟨rfl,?_⟩))
   rcases (show q=sb∨q=mb from hi) with a|a<;>omega
  | 3,hi=>exact .inr (.inr (.inr ⟨rfl,hlow q hi⟩))
  | 4,hi=>cases hi
 refine ⟨⟨⟨t,g,st,m,0,0,0,[]⟩,[],F,3,hand,0,4194304,[],0,.slice none 0 0,[]⟩,hT6,rfl,fun q hq=>?_,⟨⟨?_,?_,TpI.new (x:=⟨t,g,st,m,0,0,0,[]⟩) hT6 hc7,hp.new hc7,⟨?_,?_⟩,hJ7,GRow.nil _,fun g hg=>(by cases hg),fun i j hij q hi hj=>?_⟩,rfl,rfl,rfl,Nat.le_refl _,Nat.le_refl _,Nat.le_refl _,?_,Nat.le_refl _,t6,?_,rfl,Nat.le_refl _,Nat.le_refl _,Nat.le_refl _,Nat.le_refl _⟩,rfl,t4,rfl,rfl,rfl,rfl⟩
 ·obtain ⟨i,hi⟩:=hq
  rcases key i q hi with a|a|a|a<;>omega
 ·show w7.heap[w6.heap.size]? = _
  rw [h7]
  exact heap_alloc_new w6 _
 ·show w.heap.size≤w6.heap.size
  omega
 ·show w.heap.size≤sb
  omega
 ·show w.heap.size≤mb
  omega
 ·have a:=key i q hi
  have b:=key j q hj
  omega
 ·show 0 % 1024≤1021
  decide
 ·show st.size≤0
  omega
set_option maxHeartbeats 4000000 in
set_option maxRecDepth 100000 in
theorem emade_any (w:World) (ht:Tab10 w) (hand:Nat) (hh:hand≤1000000):Calls Tryz.prog 8 #[.int .i64 (hand:Int)] w (EMadeTo w hand):=by
 obtain ⟨W0,hW0⟩:∃ W,W=w.alloc (.cells #[.pointer none,.pointer none,.pointer none,.pointer none] 29):=⟨_,rfl⟩
 have hb0:Below w.heap.size w W0:=hW0▸(Below.refl _ _).alloc (Nat.le_refl _) _
 have hr0:W0.heap[w.heap.size]? = some (.cells #[.pointer none,.pointer none,.pointer none,.pointer none] 29 (0,0)):=hW0▸heap_alloc_new w _
 have hl0:w.heap.size<W0.heap.size:=(Array.getElem?_eq_some_iff.1 hr0).1
 have HW0:=Lib.hid hW0
 have HTB:=Lib.hid ht
 have HB0:Hid (Chg (fun _=>False) w W0):=Lib.hid (Chg.of_below hb0)
 have HR0:=Lib.hid hr0
 have HL0:=Lib.hid hl0
 have HN1:=Lib.hid (new_any 1048576 W0)
 have HHH:=Lib.hid hh
 obtain ⟨hv,hhv⟩:∃ x:Int,x=(hand:Int):=⟨_,rfl⟩
 rw [←hhv]
 have HHV:=Lib.hid hhv
 clear hb0 ht hW0 hr0 hl0 hh hhv
 go_enter Tryz.func8,Tryz.ntmps8
 go_upto_region 1 with fail
 rw [←HW0.out]
 go_wp2_with fail
 refine HN1.out.mono ?_
 rintro e w1 ⟨rfl,hd1,hb1⟩
 have hg1:DiskG W0 w1 W0.heap.size ⟨W0.heap.size,none,[]⟩ (newSt 1048576):=⟨hd1,rfl,Chg.of_below hb1,fun k hk=>by simp [Gh.fp] at hk;omega⟩
 have HO:=Lib.hid (topen_new hg1 (tab_chg HTB.out HB0.out))
 have HB1:=Lib.hid hb1
 clear hd1 hb1 hg1
 go_wp2_with fail
 refine HO.out.mono ?_
 rintro e w3 ⟨tb,t,g,m,st,rfl,x1,x2,x3,x4,x5,x6,x7,x8,x9,x10,x11,x12⟩
 have hsz:=new_size x9 x7 x12
 have hc3:Chg (fun _=>False) W0 w3:=(Chg.of_below HB1.out:Chg (fun _=>False) W0 w1).trans x11 (fun i hi hx=>by simp [Gh.fp] at hx;omega)
 have HX:=Lib.hid (And.intro x2 (And.intro x4 (And.intro x5 (And.intro x7 (And.intro x8 (And.intro x9 (And.intro x10 hsz)))))))
 have HC3:=Lib.hid hc3
 have HN2:=Lib.hid (new_any 4194304 w3)
 clear x1 x2 x3 x4 x5 x6 x7 x8 x9 x10 x11 x12 hsz hc3
 go_wp2_with fail
 refine HN2.out.mono ?_
 rintro e w4 ⟨rfl,hd4,hb4⟩
 have hS:Calls Tryz.prog 29 #[.pointer (some ⟨w3.heap.size,0,none⟩),.int .i64 hv] w4 (SNew w3 w4 hv 4194304):=snew_any (w0:=w3) (w:=w3) (w':=w4) (Chg.refl _ _) hv 4194304 (by decide) hd4 hb4 (by rw [HHV.out];omega) (by rw [HHV.out];have:=HHH.out;omega)
 have HS:=Lib.hid hS
 clear hd4 hb4 hS
 go_wp2_with fail
 refine HS.out.mono ?_
 rintro e w5 ⟨lb,F,rfl,hl5⟩
 rw [HHV.out] at hl5
 have HL5:=Lib.hid hl5
 have HP:=Lib.hid (pnew_any w5)
 clear hl5
 go_wp2_with fail
 refine HP.out.mono ?_
 rintro e w6 ⟨sb,mb,rfl,hp6,hsb,hmb,hb6⟩
 obtain ⟨z,hz1,hzi,hzo,hz2,hz3,hz4,hz5,hz6,hz7,hz8⟩:=emade_all HTB.out HB0.out HC3.out HX.out.1 HX.out.2.1 HX.out.2.2.1 HX.out.2.2.2.1 HX.out.2.2.2.2.1 HX.out.2.2.2.2.2.1 (HX.out.2.2.2.2.2.2.1.trans rfl) HX.out.2.2.2.2.2.2.2 HL5.out hp6 hb6 hsb hmb rfl
 have hnew:=enew_ok hz1 sb lb
 rw [hzi] at hnew
 have hc36:Chg (fun _=>False) w3 w6:=(Chg.of_below HL5.out.below:Chg (fun _=>False) w3 w5).trans (Chg.of_below hb6) (fun _ _ x=>x)
 have hres:=hc36.heap (HC3.out.heap HR0.out (fun x=>x)) (fun x=>x)
 have HRES:=Lib.hid hres
 have HZO:=Lib.hid hzo
 have HNEW:=Lib.hid hnew
 have HZ:=Lib.hid (And.intro hz2 (And.intro hz3 (And.intro hz4 (And.intro hz5 (And.intro hz6 (And.intro hz7 hz8))))))
 clear hz1 hzi hzo hz2 hz3 hz4 hz5 hz6 hz7 hz8 hnew hres hp6 hsb hmb hb6 hc36
 go_wp2_with fail
 refine HNEW.out.mono ?_
 rintro e w7 ⟨rfl,hw7⟩
 have hc7:Chg (fun _=>False) w6 w7:=hw7▸Chg.alloc _ (Chg.refl _ _) _
 have hr7:=hc7.heap HRES.out (fun x=>x)
 have y0:w7.cell? ⟨w.heap.size,0,none⟩=some (.pointer none):=by simp [World.cell?,hr7]
 have y1:w7.cell? ⟨w.heap.size,1,none⟩=some (.pointer none):=by simp [World.cell?,hr7]
 have y2:w7.cell? ⟨w.heap.size,2,none⟩=some (.pointer none):=by simp [World.cell?,hr7]
 have y3:w7.cell? ⟨w.heap.size,3,none⟩=some (.pointer none):=by simp [World.cell?,hr7]
 have yf:∀ i,w7.frozen? ⟨w.heap.size,i,none⟩=false:=fun i=>by simp [World.frozen?,hr7]
 rw [←hw7] at HZ
 have HR7:=Lib.hid hr7
 have HW7:=Lib.hid hw7
 clear hr7 hc7 hw7
 go_wp2_with fail
 obtain ⟨W8,hW8⟩:∃ W,W=(((w7.setCell ⟨w.heap.size,0,none⟩ (.pointer (some ⟨tb,0,none⟩))).setCell ⟨w.heap.size,1,none⟩ (.pointer (some ⟨sb,0,none⟩))).setCell ⟨w.heap.size,2,none⟩ (.pointer (some ⟨lb,0,none⟩))).setCell ⟨w.heap.size,3,none⟩ (.pointer (some ⟨w6.heap.size,0,none⟩)):=⟨_,rfl⟩
 have hs:∀ (W:World) (i:Nat) (v:Value),Chg (fun q=>q=w.heap.size) W (W.setCell ⟨w.heap.size,i,none⟩ v):=fun W i v=>Chg.setCell (S:=fun q=>q=w.heap.size) (p:=⟨w.heap.size,i,none⟩) (Chg.refl _ _) (fun _=>rfl) _
 have hc8:Chg (fun q=>q=w.heap.size) w7 W8:=hW8▸(((hs w7 0 _).trans (hs _ 1 _) (fun _ _ x=>x)).trans (hs _ 2 _) (fun _ _ x=>x)).trans (hs _ 3 _) (fun _ _ x=>x)
 have hr8:W8.heap[w.heap.size]? = some (.cells #[.pointer (some ⟨tb,0,none⟩),.pointer (some ⟨sb,0,none⟩),.pointer (some ⟨lb,0,none⟩),.pointer (some ⟨w6.heap.size,0,none⟩)] 29 (0,0)):=by
  rw [hW8]
  exact heap_setCell_same _ w.heap.size 3 _ _ _ (heap_setCell_same _ w.heap.size 2 _ _ _ (heap_setCell_same _ w.heap.size 1 _ _ _ (heap_setCell_same _ w.heap.size 0 _ _ _ HR7.out)))
 have e0:W8.cell? ⟨w.heap.size,0,none⟩=some (.pointer (some ⟨tb,0,none⟩)):=by simp [World.cell?,hr8]
 have e1:W8.cell? ⟨w.heap.size,1,none⟩=some (.pointer (some ⟨sb,0,none⟩)):=by simp [World.cell?,hr8]
 have e2:W8.cell? ⟨w.heap.size,2,none⟩=some (.pointer (some ⟨lb,0,none⟩)):=by simp [World.cell?,hr8]
 have e3:W8.cell? ⟨w.heap.size,3,none⟩=some (.pointer (some ⟨w6.heap.size,0,none⟩)):=by simp [World.cell?,hr8]
 have hA8:=HZ.out.1.away hc8 (fun q hq hx=>by have:=HZO.out q hq;have:=HL0.out;omega) (fun q hx=>Nat.le_of_eq hx.symm)
 have HA8:=Lib.hid hA8
 rw [←hW8]
 refine bodyPost_ret (v:=.tuple #[.agg #[.pointer (some ⟨tb,0,none⟩),.pointer (some ⟨sb,0,none⟩),.pointer (some ⟨lb,0,none⟩),.pointer (some ⟨w6.heap.size,0,none⟩)],.bool true]) ?_ rfl ?_
 ·clear hW8 hc8 hr8 hA8 y0 y1 y2 y3 yf hs
  simp [results,Tryz.results8,go_sem,e0,e1,e2,e3]
 ·exact ⟨⟨w6.heap.size,tb,sb,mb,lb⟩,z,rfl,HA8.out,HZ.out.2⟩
def idL (l:List (MsgM×List UInt8)) (bs:List UInt8):Nat:=(bytesI l).length+(tfill (roomT 0 (bytesI l)) bs.length).length
def itemsL (l:List (MsgM×List UInt8)) (M:MsgM) (bs:List UInt8):List (MsgM×List UInt8):=itemsA (roomT 0 (bytesI l)) M bs
def EAppTo (w0 w:World) (B:EnB) (z:EnG) (done rest:List RcM) (k j:Nat) (M:MsgM) (e:Ending) (w':World):Prop:=
 (∃ er:Int,er≠0∧(M.kind=0∨putO M=none)∧e = .returned (.tuple #[.int .i64 0,.int .i64 er])∧Below w.heap.size w w') ∨
 (∃ bs x',M.kind≠0∧putO M=some bs∧e = .returned (.tuple #[.int .i64 ((idL z.x.l bs:Nat):Int),.int .i64 0])∧EnA w0 w' B { z with x:=x' } done (rest ++ [⟨idL z.x.l bs,bs.length,M⟩]) (k+1) j∧QTo w (z.own B) w' (EnG.own B { z with x:=x' }) ∧
  x'.l=z.x.l ++ itemsL z.x.l M bs∧x'.m.synced=z.x.m.synced∧(∀ r∈RS z,r.id<idL z.x.l bs)∧idL z.x.l bs≤1000000)
theorem EnA.append {w0 w:World} {B:EnB} {z:EnG} {done rest:List RcM} {k j:Nat} (h:EnA w0 w B z done rest k j) (hk:k≤200) (M:MsgM) (vk:Value) (hks:Strs w 0 vk M.keys) (hcap:CapOk vk) (hs:Sound M) :
 Calls Tryz.prog 32 #[.pointer (some ⟨B.tb,0,none⟩),M.val vk] w (EAppTo w0 w B z done rest k j M):=by
 have h1:=h.ll
 have h2:=h.xn
 have h3:=h.len
 have h4:=h.i0
 have hxs:=h.xsz
 have hxc:=h.xcap
 have hnl:=notesI_len (1024*z.x.i0) z.x.l
 have hml:=h.i.tp.tn.ml
 have hil:z.x.t.ids.length=(notesI (1024*z.x.i0) z.x.l).length:=by
  have:=congrArg List.length h.i.tp.tn.ids
  rw [List.length_map] at this
  exact this
 rcases app_three h.i.tp.tg h.i.tp.rc h.i.tp.hd M vk hks hcap hs h.ok (by omega) (by omega) (by omega) (by omega) with ⟨er,q1,q2,hA⟩|⟨F,S,q1,q2,q3,q4,⟨bs,p1,p2,p3,p4⟩,hA⟩
 ·refine hA.mono ?_
  rintro e w' ⟨rfl,hb⟩
  refine .inl ⟨er,q1,?_,rfl,hb⟩
  rcases q2 with a|a
  ·exact a.2
  ·omega
 ·refine hA.mono ?_
  rintro e w' ⟨rfl,ha⟩
  obtain ⟨t',g',m',st',j',a1,a2,a3,a4,a5,a6,a7,a8,a9,a10⟩:=TapeI.app h.i.tp h.ok p3 p1 p4 p2 ha
  have hFs:F.size=(tfill (roomT z.x.i0 (bytesI z.x.l)) bs.length).length:=by rw [p4,sizeL]
  have hSs:S.size=bs.length:=by rw [p2,sizeL]
  have hbl:(bytesI (z.x.l ++ itemsA (roomT z.x.i0 (bytesI z.x.l)) M bs)).length=(bytesI z.x.l).length+F.size+S.size:=by
   rw [bytesI_app,itemsA_bytes,List.length_append,List.length_append,hFs,hSs]
   omega
  obtain ⟨d1,d2⟩:=h.i.tape (x':=⟨t',g',st',m',z.x.n+4,z.x.i0,j',z.x.l ++ itemsA (roomT z.x.i0 (bytesI z.x.l)) M bs⟩) a1 ⟨a6,fun q hq=>by
   rcases hq with b|b|b
   ·exact (a10 q b).imp .inl id
   ·exact .inl (.inr (.inl (b.trans a8)))
   ·exact (a7 q b).imp (fun c=>.inr (.inr c)) id⟩
  have hid:1024*z.x.i0+(bytesI z.x.l).length+F.size=idL z.x.l bs:=by
   unfold idL
   rw [hFs,h4]
   omega
  have hrs:recsI (1024*z.x.i0) (z.x.l ++ itemsA (roomT z.x.i0 (bytesI z.x.l)) M bs)=RS z ++ [⟨idL z.x.l bs,bs.length,M⟩]:=by
   rw [recsI_app,itemsA_recs _ _ _ _ p3,←hFs,hid]
   rfl
  have hil2:(itemsA (roomT z.x.i0 (bytesI z.x.l)) M bs).length≤2:=by unfold itemsA;split<;>simp
  have hrl:=h.rl
  refine .inr ⟨bs,_,p3,p1,by rw [hid],⟨d1,?_,h.c,h4,?_,?_,?_,?_,?_,a5.trans hxc,?_,h.cap,h.n,h.P,h.ws,Nat.le_trans h.ml (Nat.le_succ _)⟩,d2,?_,a3,?_,?_⟩
  ·show recsI (1024*z.x.i0) (z.x.l ++ itemsA (roomT z.x.i0 (bytesI z.x.l)) M bs)=_
   rw [hrs,h.rs,List.append_assoc]
  ·show (recsI (1024*z.x.i0) (z.x.l ++ itemsA (roomT z.x.i0 (bytesI z.x.l)) M bs)).length≤_
   rw [hrs,List.length_append]
   simp only [List.length_cons,List.length_nil]
   omega
  ·show (z.x.l ++ itemsA (roomT z.x.i0 (bytesI z.x.l)) M bs).length≤_
   rw [List.length_append]
   omega
  ·show z.x.n+4≤_
   omega
  ·show (bytesI (z.x.l ++ itemsA (roomT z.x.i0 (bytesI z.x.l)) M bs)).length % 1024≤1021
   rw [hbl]
   exact q4
  ·show (bytesI (z.x.l ++ itemsA (roomT z.x.i0 (bytesI z.x.l)) M bs)).length≤_
   rw [hbl]
   omega
  ·show st'.size≤(bytesI (z.x.l ++ itemsA (roomT z.x.i0 (bytesI z.x.l)) M bs)).length
   rw [hbl,a4]
   omega
  ·show z.x.l ++ itemsA (roomT z.x.i0 (bytesI z.x.l)) M bs=_
   unfold itemsL
   rw [h4]
  ·intro r hr
   have:=h.recs r hr
   rw [←hid,h4]
   omega
  ·rw [←hid,h4]
   omega
theorem tsync_s {w0 w:World} {tb:Nat} {t:TapeM} {g:Gh} {st:St} {m:RowM} {n z i0 j:Nat} {all:List UInt8} (h:TapeG w0 w tb t g st m) (hk:RowC n m st z i0 j all) (hn:n≤1048576) :
 Calls Tryz.prog 13 #[.pointer (some ⟨tb,0,none⟩)] w fun e w'=>e = .returned (.int .i64 0)∧∃ g' m' st',TapeG w0 w' tb t g' st' m'∧m'.head=m.head∧m'.synced=((z*i0+all.length:Nat):Int)∧RowC n m' st' z i0 j all∧st'.cap=st.cap∧st'.size=st.size∧Chg (fun q=>q=t.rb∨q∈g.fp) w w'∧∀ q∈g'.fp,(q=t.rb∨q∈g.fp)∨w.heap.size≤q:=by
 have HR:=Lib.hid (trow_any h.tape)
 obtain ⟨u,u1,u2,u3⟩:=hk.row.t0
 have h1:=hk.row.size
 have h4:=hk.row.next
 have h5:=hk.row.room
 have h6:=hk.row.z1
 have h7:=hk.row.z2
 have HB:=Lib.hid (rsync_any w0 t.rb g st m n w h.row hk.row.calm hn (by omega) (by omega) (by omega) (by omega) (by have:=hk.row.head;omega) (by omega) (by omega) (hk.row.found _ ⟨u,by omega,u2⟩))
 have HE:Hid (∀ w' g',RowG w0 w' t.rb g' (syncAll st (rowNames m m.touched.toNat)) (syncedM m)→RowTo w t.rb g g' w'→∃ g' m' st',TapeG w0 w' tb t g' st' m'∧m'.head=m.head∧m'.synced=((z*i0+all.length:Nat):Int)∧RowC n m' st' z i0 j all∧st'.cap=st.cap∧st'.size=st.size∧Chg (fun q=>q=t.rb∨q∈g.fp) w w'∧∀ q∈g'.fp,(q=t.rb∨q∈g.fp)∨w.heap.size≤q):=Lib.hid (fun w' g' hg' hto=>⟨g',_,_,h.step hg' hto,rfl,hk.row.end_,hk.sync _,(syncAll_keeps _ _).2.2.1,(syncAll_keeps _ _).2.2.2,hto.chg,fun q hq=>(hto.fp q hq).imp .inr id⟩)
 clear h hk hn u1 u2 u3 h1 h4 h5 h6 h7
 go_enter Tryz.func13,Tryz.ntmps13
 go_wp2_with fail
 refine HR.out.mono ?_
 rintro e w1 ⟨rfl,rfl⟩
 go_wp2_with fail
 refine HB.out.mono ?_
 rintro e w1 ⟨rfl,g',hg',hto⟩
 have HX:=Lib.hid (HE.out w1 g' hg' hto)
 clear hg' hto
 go_wp2_with fail
 go_ret
 exact ⟨rfl,HX.out⟩
theorem EnA.sync {w0 w:World} {B:EnB} {z:EnG} {done rest:List RcM} {k j:Nat} (h:EnA w0 w B z done rest k j) (hk:k≤200) :
 Calls Tryz.prog 13 #[.pointer (some ⟨B.tb,0,none⟩)] w fun e w'=>e = .returned (.int .i64 0)∧∃ x',EnA w0 w' B { z with x:=x' } done rest k j∧QTo w (z.own B) w' (EnG.own B { z with x:=x' })∧x'.l=z.x.l∧x'.m.synced=(((bytesI z.x.l).length:Nat):Int):=by
 have h2:=h.xn
 refine (tsync_s h.i.tp.tg h.i.tp.rc (by omega)).mono ?_
 rintro e w' ⟨rfl,g',m',st',a1,a3,a4,a5,a6,a6',a7,a8⟩
 obtain ⟨d1,d2⟩:=h.i.tape (x':=⟨z.x.t,g',st',m',z.x.n,z.x.i0,z.x.j,z.x.l⟩) ⟨a1,a5,a3.trans h.i.tp.hd,h.i.tp.la,h.i.tp.tn⟩ ⟨a7.wide (fun q _ hq=>hq.elim (fun b=>.inr (.inl b)) (fun b=>.inr (.inr b))),fun q hq=>by
  rcases hq with b|b|b
  ·exact .inl (.inl b)
  ·exact .inl (.inr (.inl b))
  ·rcases a8 q b with (c|c)|c
   ·exact .inl (.inr (.inl c))
   ·exact .inl (.inr (.inr c))
   ·exact .inr c⟩
 refine ⟨rfl,_,⟨d1,h.rs,h.c,h.i0,h.rl,h.ll,h.xn,h.ok,h.len,a6.trans h.xcap,?_,h.cap,h.n,h.P,h.ws,h.ml⟩,d2,rfl,?_⟩
 ·show st'.size≤_
  rw [a6']
  exact h.xsz
 ·show m'.synced=_
  rw [a4,h.i0]
  omega
theorem synced_all {w0 w:World} {B:EnB} {z:EnG} {done rest:List RcM} {k j:Nat} (h:EnA w0 w B z done rest k j) (hs:z.x.m.synced=(((bytesI z.x.l).length:Nat):Int)):∀ r∈RS z,(r.id:Int)<z.x.m.synced:=fun r hr=>by
 have:=h.recs r hr
 rw [hs]
 omega
theorem ref_ok {M:MsgM} {bs:List UInt8} (hp:putO M=some bs):0≤M.ref∧M.ref≤1099511627776:=by
 unfold putO at hp
 have hr:rightB M=true:=by
  cases h:rightB M with
  | true=>rfl
  | false=>rw [h] at hp;simp at hp
 unfold rightB at hr
 rw [Bool.and_eq_true] at hr
 exact allIn_iff.1 hr.1 M.ref (by simp [MsgM.nums])
theorem EnA.note {w0 w:World} {B:EnB} {z:EnG} {done rest:List RcM} {k j:Nat} (h:EnA w0 w B z done rest k j) (hk:k≤200) (id:Int) (M:MsgM) (vk:Value) (hv:vk.oneCell'=true) (hid:(Lit.int .i64 id).wf=true) (href:(Lit.int .i64 M.ref).wf=true) (hl:(noteP z.M id M.kind M.due M.ref).2.length≤k) :
 Calls Tryz.prog 17 #[.pointer (some ⟨B.sb,0,none⟩),.int .i64 id,M.val vk] w fun e w'=>∃ b,e = .returned (.bool b)∧EnA w0 w' B { z with M:=(noteP z.M id M.kind M.due M.ref).2 } done rest k j∧QTo w (z.own B) w' (EnG.own B { z with M:=(noteP z.M id M.kind M.due M.ref).2 }):=by
 have hml:=h.ml
 refine (pnote_any h.i.pe id ⟨M.kind,M.queue,M.due,M.retry,M.ref,M.born,M.topic,M.tag,M.body,vk⟩ hv hid href (by unfold maxLen;omega)).mono ?_
 rintro e w' ⟨rfl,hp,hc⟩
 obtain ⟨a,b⟩:=h.i.pend hp hc
 exact ⟨_,rfl,{ h with i:=a,ml:=hl },b⟩
theorem getP_drop (M:PM) (a b:Int) (h:b≠a):getK (dropK M a) b=getK M b:=by
 unfold getK dropK
 congr 1
 induction M with
 | nil=>rfl
 | cons p M ih=>
  rw [List.filter_cons]
  by_cases hp:p.1=a
  ·rw [if_neg (by simp [hp]),ih,List.find?_cons_of_neg (by simp [hp];exact fun e=>h e.symm)]
  ·rw [if_pos (by simp [hp])]
   by_cases hb:p.1=b
   ·rw [List.find?_cons_of_pos (by simp [hb]),List.find?_cons_of_pos (by simp [hb])]
   ·rw [List.find?_cons_of_neg (by simp [hb]),List.find?_cons_of_neg (by simp [hb]),ih]
theorem getP_put (M:PM) (a:Int) (r:Int×Int) (b:Int):getK (putP M a r) b=if b=a then some r else getK M b:=by
 by_cases h:b=a
 ·subst h
  rw [if_pos rfl]
  have h1:(dropK M b).find? (fun p=>decide (p.1=b))=none:=List.find?_eq_none.2 fun p hp=>by
   have:=(List.mem_filter.1 hp).2
   simpa using this
  unfold putP getK
  rw [List.find?_append,h1]
  simp
 ·rw [if_neg h,←getP_drop M a b h]
  unfold putP getK
  rw [List.find?_append]
  cases hf:(dropK M a).find? (fun p=>decide (p.1=b)) with
  | some p=>rfl
  | none=>
   simp
   exact fun e:a=b=>h e.symm
theorem stP_put (M:PM) (a:Int) (r:Int×Int) (b:Int):stP (putP M a r) b=if b=a then r.1 else stP M b:=by
 unfold stP
 rw [getP_put]
 split<;>rfl
theorem note_new {M:PM} {id due ref:Int} (h0:0≤id) (hs:stP M id=0):(noteP M id 2 due ref).2=putP M id (1,due):=by
 unfold noteP
 rw [if_neg (by omega)]
 have e:ofP id 2 ref=id:=by unfold ofP;rw [if_pos rfl]
 rw [e]
 have hb:behP ((getK M id).getD (0,0)) 2 due=(1,due):=by unfold behP;rw [if_pos ⟨hs,rfl⟩]
 rw [hb,if_neg]
 intro hx
 unfold stP at hs
 rw [←hx] at hs
 cases hs
theorem stP_absent {M:PM} {a:Int} (h:a∉M.map (·.1)):stP M a=0:=by
 unfold stP
 rw [getK_not (fun p hp e=>h (List.mem_map.2 ⟨p,hp,e⟩))]
 rfl
theorem putP_keys {M:PM} (h:GoodP M) {a:Int} (ha:stP M a≠0) (r:Int×Int):((putP M a r).map (·.1)).Perm (M.map (·.1)):=by
 have hm:=getP_mem ha
 obtain ⟨r1,r2,e⟩:=List.append_of_mem hm
 have hn:=h.nodup
 rw [e,List.map_append,List.map_cons,List.nodup_append] at hn
 obtain ⟨_,h2,h3⟩:=hn
 rw [List.nodup_cons] at h2
 have e1:dropK r1 a=r1:=List.filter_eq_self.2 fun p hp=>by
  have:=h3 _ (List.mem_map_of_mem hp) _ (List.mem_cons_self ..)
  simpa using this
 have e2:dropK r2 a=r2:=List.filter_eq_self.2 fun p hp=>by
  have:p.1≠a:=fun e=>h2.1 (List.mem_map.2 ⟨p,hp,e⟩)
  simpa using this
 have e3:dropK M a=r1 ++ r2:=by
  rw [e]
  unfold dropK at e1 e2 ⊢
  rw [List.filter_append,List.filter_cons,e1,e2]
  simp
 unfold putP
 rw [e3]
 conv=>rhs;rw [e]
 simp only [List.map_append,List.map_cons,List.map_nil,List.append_assoc]
 exact List.Perm.append_left _ List.perm_append_comm
theorem wl_count (M:PM) (hd:Nat) (l:List RcM):(l.flatMap (wsR M hd)).length+(l.flatMap (ltR M hd)).length=(l.filter fun r=>decide (stP M (r.id:Int)=1)).length:=by
 induction l with
 | nil=>rfl
 | cons r l ih=>
  rw [List.flatMap_cons,List.flatMap_cons,List.length_append,List.length_append,List.filter_cons]
  by_cases h:stP M (r.id:Int)=1
  ·rw [if_pos (by simpa using h),List.length_cons,←ih]
   unfold wsR ltR
   by_cases h2:hd<r.m.due.toNat<;>simp [h,h2]<;>omega
  ·rw [if_neg (by simpa using h),←ih]
   unfold wsR ltR
   simp [h]
def OutE (w:World) (B:EnB) (z:EnG) (p:Nat):Prop:=p<w.heap.size∧¬ z.own B p
theorem OutE.to {w w':World} {B:EnB} {z z':EnG} {p:Nat} (h:OutE w B z p) (hq:QTo w (z.own B) w' (z'.own B)):OutE w' B z' p∧w'.heap[p]? = w.heap[p]?:=by
 have hs:=hq.chg.size
 refine ⟨⟨Nat.lt_of_lt_of_le h.1 hs,fun hx=>?_⟩,hq.chg.block p h.1 h.2⟩
 rcases hq.new p hx with a|a
 ·exact h.2 a
 ·have:=h.1;omega
def rigC (B:EnB):Array Value:=#[.pointer (some ⟨B.tb,0,none⟩),.pointer (some ⟨B.sb,0,none⟩),.pointer (some ⟨B.lb,0,none⟩),.pointer (some ⟨B.eb,0,none⟩)]
structure RigI (w:World) (rb:Nat) (B:EnB) (z:EnG):Prop where
 at_:w.heap[rb]? = some (.cells (rigC B) 29 (0,0))
 out:OutE w B z rb
theorem RigI.qt {w w':World} {rb:Nat} {B:EnB} {z z':EnG} (h:RigI w rb B z) (hq:QTo w (z.own B) w' (z'.own B)):RigI w' rb B z':=⟨(h.out.to hq).2.trans h.at_,(h.out.to hq).1⟩
theorem RigI.new {w w':World} {rb:Nat} {B:EnB} {z:EnG} (h:RigI w rb B z) (hc:Chg (fun _=>False) w w'):RigI w' rb B z:=h.qt (QTo.of_new hc)
theorem RigI.cells {w:World} {rb:Nat} {B:EnB} {z:EnG} (h:RigI w rb B z):w.cell? ⟨rb,0,none⟩=some (.pointer (some ⟨B.tb,0,none⟩))∧w.cell? ⟨rb,1,none⟩=some (.pointer (some ⟨B.sb,0,none⟩))∧w.cell? ⟨rb,2,none⟩=some (.pointer (some ⟨B.lb,0,none⟩))∧w.cell? ⟨rb,3,none⟩=some (.pointer (some ⟨B.eb,0,none⟩)):=by
 have h:=h.at_
 refine ⟨?_,?_,?_,?_⟩<;>simp [World.cell?,h,rigC]
theorem RigI.made {w w1:World} {B:EnB} {z:EnG} (hi:EnI w w1 B z):RigI (w1.alloc (.cells (rigC B) 29)) w1.heap.size B z:=by
 have h:=heap_alloc_new w1 (.cells (rigC B) 29)
 exact ⟨h,(Array.getElem?_eq_some_iff.1 h).1,fun hx=>Nat.lt_irrefl _ (hi.lt _ hx)⟩
def EAddTo (w0 w:World) (B:EnB) (z:EnG) (done rest:List RcM) (k j:Nat) (M:MsgM) (e:Ending) (w':World):Prop:=
 ((M.kind=0∨putO M=none)∧e = .returned (.tuple #[.int .i64 0,.bool false])∧Chg (fun _=>False) w w') ∨
 (∃ bs z',M.kind≠0∧putO M=some bs∧e = .returned (.tuple #[.int .i64 ((idL z.x.l bs:Nat):Int),.bool true])∧EnA w0 w' B z' done (rest ++ [⟨idL z.x.l bs,bs.length,M⟩]) (k+1) j∧QTo w (z.own B) w' (z'.own B) ∧
  z'.x.l=z.x.l ++ itemsL z.x.l M bs∧z'.x.m.synced=z.x.m.synced∧z'.M=(noteP z.M ((idL z.x.l bs:Nat):Int) M.kind M.due M.ref).2∧z'.hd=z.hd∧z'.ws=z.ws∧z'.L=z.L∧(∀ r∈RS z,r.id<idL z.x.l bs)∧idL z.x.l bs≤1000000)
set_option maxHeartbeats 4000000 in
set_option maxRecDepth 100000 in
theorem eadd_any {w0 w:World} {B:EnB} {z:EnG} {done rest:List RcM} {k j:Nat} (h:EnA w0 w B z done rest k j) (hk:k≤100) (M:MsgM) (vk:Value) (hks:Strs w 0 vk M.keys) (hcap:CapOk vk) (hs:Sound M) :
 Calls Tryz.prog 12 #[.agg (rigC B),M.val vk] w (EAddTo w0 w B z done rest k j M):=by
 obtain ⟨m1,mq,m3,m4,m5,m6,m7,m8,m9,m10⟩:=M
 obtain ⟨ka,kc,hva,hx⟩:=id hks
 dsimp only at hva
 obtain ⟨nk,hnk⟩:∃ n,n=m10.length:=⟨_,rfl⟩
 rw [←hnk] at hva
 subst hva
 obtain ⟨W0,hW0⟩:∃ W,W=w.alloc (.cells #[.pointer (some ⟨B.tb,0,none⟩),.pointer (some ⟨B.sb,0,none⟩),.pointer (some ⟨B.lb,0,none⟩),.pointer (some ⟨B.eb,0,none⟩)] 29):=⟨_,rfl⟩
 obtain ⟨W1,hW1⟩:∃ W,W=W0.alloc (.cells #[.int .i64 m1,.int .i64 mq,.int .i64 m3,.int .i64 m4,.int .i64 m5,.int .i64 m6,.string m7,.string m8,.string m9,.slice ka nk kc] 36):=⟨_,rfl⟩
 have hc0:Chg (fun _=>False) w W0:=hW0▸Chg.alloc _ (Chg.refl _ _) _
 have hc1:Chg (fun _=>False) W0 W1:=hW1▸Chg.alloc _ (Chg.refl _ _) _
 have hcw:=hc0.trans hc1 (fun _ _ x=>x)
 have hR0:RigI W0 w.heap.size B z:=hW0▸RigI.made h.i
 have hR1:=hR0.new hc1
 have hbx:Box W1 W0.heap.size #[.int .i64 m1,.int .i64 mq,.int .i64 m3,.int .i64 m4,.int .i64 m5,.int .i64 m6,.string m7,.string m8,.string m9,.slice ka nk kc]:=hW1▸Box.new W0 _
 have hA0:=h.new hc0
 have hA1:=hA0.new hc1
 have hbo:OutE W1 B z W0.heap.size:=⟨hbx.lt,fun hx=>Nat.lt_irrefl _ (hA0.i.lt _ hx)⟩
 have HAP:=Lib.hid (hA1.append (by omega) ⟨m1,mq,m3,m4,m5,m6,m7,m8,m9,m10⟩ (.slice ka nk kc) (hks.below (chg_below hcw) (Nat.le_refl _)) hcap hs)
 obtain ⟨x0,x1,x2,x3⟩:=hR1.cells
 have k0:=hbx.cell
 obtain ⟨bx,hbx'⟩:∃ q,q=W0.heap.size:=⟨_,rfl⟩
 obtain ⟨rb,hrb⟩:∃ q,q=w.heap.size:=⟨_,rfl⟩
 rw [←hbx'] at hbx hbo k0
 rw [←hrb] at hR1 x0 x1 x2 x3
 have HBX:=Lib.hid hbx
 have HBO:=Lib.hid hbo
 have HBB:Hid (bx=w.heap.size+1):=Lib.hid (by rw [hbx',hW0];simp)
 have HRB:=Lib.hid hrb
 have HR1:=Lib.hid hR1
 have HW0:=Lib.hid hW0
 have HW1:=Lib.hid hW1
 have HCW:=Lib.hid hcw
 have HH:=Lib.hid h
 have HK:=Lib.hid hk
 obtain ⟨eb,tb,sb,mb,lb⟩:=B
 unfold rigC MsgM.val MsgM.cells
 dsimp only at *
 clear hks hcap hs hx hnk hW0 hW1 hc0 hc1 hcw hR0 hR1 hA0 hA1 hbo hbx' hrb hbx h hk x2 x3
 go_enter Tryz.func12,Tryz.ntmps12
 go_upto_region 1 with fail
 rw [←HW0.out,←HW1.out,←HBB.out,←HRB.out]
 go_wp2_with fail
 refine HAP.out.mono ?_
 rintro e w5 (⟨er,q1,q2,rfl,hb5⟩|⟨bs,x',p1,p2,rfl,hA5,hq5,a1,a2,a3,a4⟩)
 ·have HQ1:(er == (0:Int))=false:=by simpa using q1
  have HE:Hid (Chg (fun _=>False) w w5):=Lib.hid (HCW.out.trans (Chg.of_below hb5) (fun _ _ x=>x))
  have HQ2:=Lib.hid q2
  clear hb5 q2 k0 x0 x1
  go_wp2_with fail
  go_ret2
  exact .inl ⟨HQ2.out,rfl,HE.out⟩
 ·have hbx5:Box w5 bx _:=(HBO.out.to hq5).2.trans HBX.out
  have hR5:=HR1.out.qt hq5
  have k5:=hbx5.cell
  obtain ⟨_,y1,_,_⟩:=hR5.cells
  dsimp only at y1
  have hnl:=note_len hA5.i.pe.good ((idL z.x.l bs:Nat):Int) m1 m3 m5
  have hml:=HH.out.ml
  have HN:=Lib.hid (hA5.note (by have:=HK.out;omega) ((idL z.x.l bs:Nat):Int) ⟨m1,mq,m3,m4,m5,m6,m7,m8,m9,m10⟩ (.slice ka nk kc) rfl (twf_nat _ (by omega)) (by
   obtain ⟨r0,r1⟩:=ref_ok p2
   obtain ⟨b,hb⟩:∃ b:Nat,m5=(b:Int):=⟨m5.toNat,by dsimp only at r0;omega⟩
   rw [hb]
   exact twf_nat _ (by dsimp only at r1;omega)) (by
   dsimp only at hnl ⊢
   rw [hnl]
   split<;>omega))
  have HP:=Lib.hid (And.intro p1 (And.intro p2 (And.intro a1 (And.intro a2 (And.intro a3 a4)))))
  have HQ5:=Lib.hid hq5
  obtain ⟨id,hid⟩:∃ x:Int,x=((idL z.x.l bs:Nat):Int):=⟨_,rfl⟩
  rw [←hid] at HN ⊢
  have HID:=Lib.hid hid
  unfold MsgM.val MsgM.cells at HN
  dsimp only at HN
  clear hA5 hq5 p1 p2 a1 a2 a3 a4 hbx5 hR5 hnl hml hid k0 x0 x1
  go_wp2_with fail
  refine HN.out.mono ?_
  rintro e w6 ⟨b6,rfl,hA6,hq6⟩
  have HA6:=Lib.hid hA6
  have HQ6:=Lib.hid hq6
  clear hA6 hq6 k5 y1
  go_wp2_with fail
  go_ret2
  refine .inr ⟨bs,_,HP.out.1,HP.out.2.1,by rw [HID.out];rfl,HA6.out,(QTo.of_new HCW.out).trans (HQ5.out.trans HQ6.out),HP.out.2.2.1,HP.out.2.2.2.1,?_,rfl,rfl,rfl,HP.out.2.2.2.2.1,HP.out.2.2.2.2.2⟩
  rw [←HID.out]
theorem grow_ints {w:World} {v:Value} {l:List Int} (h:GRow 3 1 ienK w v l):Ints w v l:=by
 rcases h.form layK with ⟨rfl,rfl⟩|⟨g,cap,rfl,_,_,_,hc⟩
 ·exact ⟨none,0,rfl,.inl rfl⟩
 ·refine ⟨_,cap,rfl,.inr ⟨g,0,rfl,fun i hi=>?_⟩⟩
  have:=hc i (l.getD i 0) (by rw [List.getD_eq_getElem?_getD,List.getElem?_eq_getElem hi];rfl) 0 (.int .i64 (l.getD i 0)) rfl
  rw [Nat.mul_one,Nat.add_zero] at this
  rw [Nat.zero_add]
  exact this
theorem EnA.waits {w0 w:World} {B:EnB} {z:EnG} {done rest:List RcM} {k j:Nat} (h:EnA w0 w B z done rest k j):Calls Tryz.prog 18 #[.pointer (some ⟨B.lb,0,none⟩)] w fun e w'=>e = .returned (.tuple #[.int .i64 (z.ws.length:Nat),.int .i64 0])∧Chg (fun _=>False) w w':=
 (h.i.lg.waits).mono fun e w' ⟨a,b⟩=>⟨a,Chg.of_below b⟩
theorem EnA.late {w0 w:World} {B:EnB} {z:EnG} {done rest:List RcM} {k j:Nat} (h:EnA w0 w B z done rest k j):Calls Tryz.prog 21 #[.pointer (some ⟨B.eb,0,none⟩)] w fun e w'=>∃ a cap,e = .returned (.slice a z.L.length cap)∧EnA w0 w' B { z with v:=.slice none 0 0,L:=[]} done rest k j∧QTo w (z.own B) w' (EnG.own B { z with v:=.slice none 0 0,L:=[]})∧GRow 3 1 ienK w' (.slice a z.L.length cap) z.L∧(∀ q,(Value.slice a z.L.length cap).ownBlock=some q→¬ EnG.own B { z with v:=.slice none 0 0,L:=[]} q∧z.own B q∧q<w.heap.size):=by
 refine (elate_any h.i).mono ?_
 rintro e w' ⟨rfl,h1,h2,h3,h4,h5⟩
 obtain ⟨a,cap,hv⟩:=h3.len layK
 have hw:=h.ws
 refine ⟨a,cap,by rw [hv],⟨h1,h.rs,h.c,h.i0,h.rl,h.ll,h.xn,h.ok,h.len,h.xcap,h.xsz,h.cap,h.n,h.P,?_,h.ml⟩,h2,by rw [←hv];exact h3,fun q hq=>?_⟩
 ·show z.ws.length+0≤_
  omega
 ·rw [←hv] at hq
  exact ⟨h4 q hq,⟨4,hq⟩,h.i.row.lt q hq⟩
theorem AllE.nil {w0 w:World} {B:EnB} {z:EnG} {done rest:List RcM} {k j:Nat} (h:EnA w0 w B z done rest k j) (hs:∀ r∈RS z,(r.id:Int)<z.x.m.synced) {d r:List RcM} (hr:rest=d ++ r) (ha:AllE z r):r=[]:=by
 rcases ha with a|⟨x,l,a,b⟩
 ·exact a
 ·have:=hs x (by rw [h.rs,hr,a];simp)
  omega
def awS (d:Int):MsgM:=⟨2,0,d,0,0,0,⟨#[97]⟩,⟨#[]⟩,⟨#[]⟩,[]⟩
theorem awS5_put:putO (awS 5)=some (recB (awS 5)):=by
 unfold putO
 rw [if_pos (by kernel_rfl),if_pos (by decide)]
theorem awS6_put:putO (awS 6)=some (recB (awS 6)):=by
 unfold putO
 rw [if_pos (by kernel_rfl),if_pos (by decide)]
theorem awS_sound (d:Int):Sound (awS d):=⟨by show (⟨#[97]⟩:ByteArray).size≤maxLen;unfold maxLen;decide,by show (⟨#[]⟩:ByteArray).size≤maxLen;unfold maxLen;decide,by show (⟨#[]⟩:ByteArray).size≤1000000;decide,by show ([]:List ByteArray).length≤1000000;decide,fun t h=>by cases h⟩
set_option maxHeartbeats 8000000 in
set_option maxRecDepth 100000 in
theorem eawake_any (w:World) (ht:Tab10 w):Calls Tryz.prog 7 #[] w fun e w'=>e = .returned (.bool true)∧Chg (fun _=>False) w w':=by
 have HM:=Lib.hid (emade_any w ht 5 (by decide))
 clear ht
 go_enter Tryz.func7,Tryz.ntmps7
 go_wp2_with fail
 refine HM.out.mono ?_
 rintro e w1 ⟨B,z,rfl,hA,m1,m2,m3,m4,m5,m6⟩
 obtain ⟨W1,hW1⟩:∃ W,W=w1.alloc (.cells #[.pointer (some ⟨B.tb,0,none⟩),.pointer (some ⟨B.sb,0,none⟩),.pointer (some ⟨B.lb,0,none⟩),.pointer (some ⟨B.eb,0,none⟩)] 29):=⟨_,rfl⟩
 have hc1:Chg (fun _=>False) w1 W1:=hW1▸Chg.alloc _ (Chg.refl _ _) _
 have hR1:RigI W1 w1.heap.size B z:=hW1▸RigI.made hA.i
 have hA1:=hA.new hc1
 obtain ⟨eb,tb,sb,mb,lb⟩:=B
 obtain ⟨rb,hrb⟩:∃ r,r=w1.heap.size:=⟨_,rfl⟩
 rw [←hrb] at hR1
 obtain ⟨r0,r1,r2,r3⟩:=hR1.cells
 dsimp only at *
 have hadd:Calls Tryz.prog 12 #[.agg #[.pointer (some ⟨tb,0,none⟩),.pointer (some ⟨sb,0,none⟩),.pointer (some ⟨lb,0,none⟩),.pointer (some ⟨eb,0,none⟩)],.agg #[.int .i64 2,.int .i64 0,.int .i64 5,.int .i64 0,.int .i64 0,.int .i64 0,.string ⟨#[97]⟩,.string ⟨#[]⟩,.string ⟨#[]⟩,.slice none 0 0]] W1 (EAddTo w W1 ⟨eb,tb,sb,mb,lb⟩ z [] [] 0 0 (awS 5)):=eadd_any hA1 (by decide) (awS 5) (.slice none 0 0) ⟨none,0,rfl,.inl rfl⟩ ⟨none,0,0,rfl,Nat.le_refl _⟩ (awS_sound 5)
 have HR1:=Lib.hid hR1
 have HADD:=Lib.hid hadd
 have HZ:=Lib.hid (And.intro m1 (And.intro m2 (And.intro m3 (And.intro m4 (And.intro m5 m6)))))
 have HW1:=Lib.hid hW1
 have HRB:=Lib.hid hrb
 clear hA hA1 hR1 m1 m2 m3 m4 m5 m6 hW1 hc1 hrb hadd
 go_upto_region 2 with fail
 rw [←HW1.out,←HRB.out]
 go_wp2_with fail
 refine HADD.out.mono ?_
 rintro e w2 (⟨q,_⟩|⟨bs,z2,p1,p2,rfl,hA2,hq2,a1,a2,a3,a4,a5,a6,a7,a8⟩)
 ·exfalso
  rcases q with q|q
  ·exact absurd q (by decide)
  ·rw [awS5_put] at q;cases q
 have hR2:=HR1.out.qt hq2
 obtain ⟨r0,r1,r2,r3⟩:=hR2.cells
 dsimp only at r0 r1 r2 r3
 have hadd:Calls Tryz.prog 12 #[.agg #[.pointer (some ⟨tb,0,none⟩),.pointer (some ⟨sb,0,none⟩),.pointer (some ⟨lb,0,none⟩),.pointer (some ⟨eb,0,none⟩)],.agg #[.int .i64 2,.int .i64 0,.int .i64 6,.int .i64 0,.int .i64 0,.int .i64 0,.string ⟨#[97]⟩,.string ⟨#[]⟩,.string ⟨#[]⟩,.slice none 0 0]] w2 (EAddTo w w2 ⟨eb,tb,sb,mb,lb⟩ z2 [] ([] ++ [⟨idL z.x.l bs,bs.length,awS 5⟩]) (0+1) 0 (awS 6)):=eadd_any hA2 (by decide) (awS 6) (.slice none 0 0) ⟨none,0,rfl,.inl rfl⟩ ⟨none,0,0,rfl,Nat.le_refl _⟩ (awS_sound 6)
 have HR2:=Lib.hid hR2
 have HADD2:=Lib.hid hadd
 obtain ⟨i1,hi1⟩:∃ i,i=idL z.x.l bs:=⟨_,rfl⟩
 rw [←hi1] at a3 a8 HADD2 hA2 ⊢
 have hRS2:=hA2.rs
 rw [HZ.out.2.2.1] at a3
 rw [HZ.out.2.2.2.1] at a4
 rw [HZ.out.2.2.2.2.1] at a5
 rw [HZ.out.2.2.2.2.2] at a6
 have HA2:=Lib.hid (And.intro hRS2 (And.intro a3 (And.intro a4 (And.intro a5 a6))))
 obtain ⟨l1,hl1⟩:∃ i,i=bs.length:=⟨_,rfl⟩
 rw [←hl1] at HADD2 HA2
 clear hadd hA2 hq2 hR2 p1 p2 a1 a2 a3 a4 a5 a6 a7 a8 hi1 hRS2 hl1 bs
 go_wp2_with fail
 refine HADD2.out.mono ?_
 rintro e w3 (⟨q,_⟩|⟨bs,z3,p1,p2,rfl,hA3,hq3,a1,a2,a3,a4,a5,a6,a7,a8⟩)
 ·exfalso
  rcases q with q|q
  ·exact absurd q (by decide)
  ·rw [awS6_put] at q;cases q
 have hR3:=HR2.out.qt hq3
 obtain ⟨r0,r1,r2,r3⟩:=hR3.cells
 dsimp only at r0 r1 r2 r3
 obtain ⟨i2,hi2⟩:∃ i,i=idL z2.x.l bs:=⟨_,rfl⟩
 rw [←hi2] at a3 a7 hA3 ⊢
 have hlt:i1<i2:=a7 ⟨i1,l1,awS 5⟩ (by rw [HA2.out.1];simp)
 rw [HA2.out.2.1] at a3
 rw [HA2.out.2.2.1] at a4
 rw [HA2.out.2.2.2.1] at a5
 rw [HA2.out.2.2.2.2] at a6
 have hM1:(noteP [] (i1:Int) 2 5 0).2=putP [] (i1:Int) (1,5):=note_new (Int.natCast_nonneg _) rfl
 have hs12:stP (putP [] (i1:Int) (1,5)) (i2:Int)=0:=by rw [stP_put,if_neg (by omega)];rfl
 have hM2:z3.M=putP (putP [] (i1:Int) (1,5)) (i2:Int) (1,6):=by
  rw [a3]
  show (noteP (noteP [] (i1:Int) 2 5 0).2 (i2:Int) 2 6 0).2=_
  rw [hM1]
  exact note_new (Int.natCast_nonneg _) hs12
 have hst1:stP z3.M (i1:Int)=1:=by rw [hM2,stP_put,if_neg (by omega),stP_put,if_pos rfl]
 have hst2:stP z3.M (i2:Int)=1:=by rw [hM2,stP_put,if_pos rfl]
 have HSY:=Lib.hid (hA3.sync (by decide))
 have HR3:=Lib.hid hR3
 have HA3:=Lib.hid hA3
 have HF3:=Lib.hid (And.intro hst1 (And.intro hst2 (And.intro a4 (And.intro a5 a6))))
 clear hA3 hq3 hR3 p1 p2 a1 a2 a3 a4 a5 a6 a7 a8 hi2 hlt hM1 hs12 hM2 hst1 hst2
 go_wp2_with fail
 refine HSY.out.mono ?_
 rintro e w4 ⟨rfl,x4,hA4,hq4,b1,b2⟩
 have hR4:=HR3.out.qt hq4
 obtain ⟨r0,r1,r2,r3⟩:=hR4.cells
 dsimp only at r0 r1 r2 r3
 have HAL:=Lib.hid (eall_any hA4 (by decide) (by decide))
 have HR4:=Lib.hid hR4
 have HA4:=Lib.hid hA4
 have HB4:Hid (x4.m.synced=(((bytesI x4.l).length:Nat):Int)):=Lib.hid (by rw [b1];exact b2)
 clear hA4 hq4 hR4 b1 b2
 go_wp2_with fail
 refine HAL.out.mono ?_
 rintro e w5 ⟨d,r,z5,c1,c2,rfl,c3,hA5,hq5,c4,c5,c6⟩
 have hr:r=[]:=AllE.nil HA4.out (synced_all HA4.out HB4.out) c1 c2
 subst hr
 rw [List.append_nil] at c1
 subst c1
 have hsd:schd (([] ++ [(⟨i1,l1,awS 5⟩:RcM)]) ++ [⟨i2,bs.length,awS 6⟩])=[⟨i1,l1,awS 5⟩,⟨i2,bs.length,awS 6⟩]:=rfl
 rw [hsd] at c5 c6 ⊢
 have hw1:wsR z3.M z3.hd ⟨i1,l1,awS 5⟩=[]:=by unfold wsR;rw [if_neg];rw [HF3.out.2.2.1];intro x;exact absurd x.2 (show ¬ 5<(5:Int).toNat by decide)
 have hw2:wsR z3.M z3.hd ⟨i2,bs.length,awS 6⟩=[(6,i2)]:=by unfold wsR;rw [if_pos];rfl;exact ⟨HF3.out.2.1,by rw [HF3.out.2.2.1];show 5<(6:Int).toNat;decide⟩
 have hl1:ltR z3.M z3.hd ⟨i1,l1,awS 5⟩=[(i1:Int)]:=by unfold ltR;rw [if_pos];exact ⟨HF3.out.1,by rw [HF3.out.2.2.1];show ¬ 5<(5:Int).toNat;decide⟩
 have hl2:ltR z3.M z3.hd ⟨i2,bs.length,awS 6⟩=[]:=by unfold ltR;rw [if_neg];rw [HF3.out.2.2.1];intro x;exact absurd (show 5<(6:Int).toNat by decide) x.2
 have e5:z5.ws=[(6,i2)]:=by
  rw [c5]
  show z3.ws ++ _=_
  rw [HF3.out.2.2.2.1,List.flatMap_cons,List.flatMap_cons,List.flatMap_nil]
  show [] ++ (wsR z3.M z3.hd _ ++ (wsR z3.M z3.hd _ ++ []))=_
  rw [hw1,hw2];rfl
 have e6:z5.L=[(i1:Int)]:=by
  rw [c6]
  show z3.L ++ _=_
  rw [HF3.out.2.2.2.2,List.flatMap_cons,List.flatMap_cons,List.flatMap_nil]
  show [] ++ (ltR z3.M z3.hd _ ++ (ltR z3.M z3.hd _ ++ []))=_
  rw [hl1,hl2];rfl
 have hR5:=HR4.out.qt hq5
 obtain ⟨r0,r1,r2,r3⟩:=hR5.cells
 dsimp only at r0 r1 r2 r3
 have hwt:=hA5.waits
 rw [e5] at hwt
 have HWT:=Lib.hid hwt
 have HR5:=Lib.hid hR5
 have HA5:=Lib.hid hA5
 have HE6:=Lib.hid e6
 clear hA5 hq5 hR5 c2 c3 c4 c5 c6 hsd hw1 hw2 hl1 hl2 e5 e6 hwt
 go_wp2_with fail
 refine HWT.out.mono ?_
 rintro e w6 ⟨rfl,hc6⟩
 have hR6:=HR5.out.new hc6
 obtain ⟨r0,r1,r2,r3⟩:=hR6.cells
 dsimp only at r0 r1 r2 r3
 have hLT:=(HA5.out.new hc6).late
 rw [HE6.out] at hLT
 have HLT:=Lib.hid hLT
 clear hc6 hR6 hLT
 go_wp2_with fail
 refine HLT.out.mono ?_
 rintro e w7 ⟨a7,cap7,rfl,hA7,hq7,hg7,_⟩
 obtain ⟨W8,hW8⟩:∃ W,W=w7.alloc (.cells #[.int .i64 (i1:Int)] 3):=⟨_,rfl⟩
 have hc8:Chg (fun _=>False) w7 W8:=hW8▸Chg.alloc _ (Chg.refl _ _) _
 have hi8:Ints W8 (.slice (some ⟨w7.heap.size,0,none⟩) 1 1) [(i1:Int)]:=by
  refine ⟨_,1,rfl,.inr ⟨w7.heap.size,0,rfl,fun i hi=>?_⟩⟩
  have:i=0:=by simp at hi;omega
  subst this
  rw [hW8]
  simp
 have HIN:=Lib.hid (ints_any _ _ _ _ W8 (grow_ints (hg7.new hc8)) hi8 (by simp))
 have HC8:=Lib.hid (hA7.chg.trans hc8 (fun _ _ x=>x))
 have HW8:=Lib.hid hW8
 clear hA7 hq7 hg7 hi8 hc8 hW8
 go_wp2_with fail
 rw [←HW8.out]
 refine HIN.out.mono ?_
 rintro e w9 ⟨rfl,q9,rfl⟩
 have HC9:Hid (Chg (fun _=>False) w (W8.drewN q9)):=Lib.hid (HC8.out.trans (chg_drewN _ _) (fun _ _ x=>x))
 generalize W8.drewN q9=W9 at HC9 ⊢
 go_wp2_with fail
 go_ret
 exact ⟨by simp,HC9.out⟩
end Go.Proofs.YtldkapjeheiiaaaGreatDoor
