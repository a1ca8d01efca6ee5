/- A part. -/
import Derived.Test.YtldkapjeheiiaaaGreatDoorEpu20
import Derived.Test.YtldkapjeheiiaaaGreatDoorEpu57
import Derived.Test.YtldkapjeheiiaaaGreatDoorEpu59
set_option linter.unusedVariables false
set_option linter.unusedSimpArgs false
namespace Go.Proofs.YtldkapjeheiiaaaGreatDoor
open Go.RowKit Go.Deep
theorem EnA.cost {w0 w:World} {B:EnB} {z:EnG} {done rest:List RcM} {k j:Nat} (h:EnA w0 w B z done rest k j) (M:MsgM) (vk:Value) (hks:Strs w 0 vk M.keys) (hcap:CapOk vk) (hs:Sound M) :
 Calls Tryz.prog 11 #[.pointer (some ⟨B.tb,0,none⟩),M.val vk] w fun e w'=>∃ c:Nat,e = .returned (.int .i64 (c:Int))∧(c=0↔M.kind=0∨putO M=none)∧Below w.heap.size w w':=by
 by_cases hk:M.kind=0
 ·refine (tcost_any h.i.tp.tg h.i.tp.rc.roomOk M vk hks hcap hs (F:=⟨#[]⟩) (S:=⟨#[]⟩) (E:=1) (by unfold laidF;rw [if_pos hk])).mono ?_
  rintro e w' ⟨rfl,hb⟩
  exact ⟨0,rfl,⟨fun _=>.inl hk,fun _=>rfl⟩,hb⟩
 cases hp:putO M with
 | none=>
  refine (tcost_any h.i.tp.tg h.i.tp.rc.roomOk M vk hks hcap hs (F:=⟨#[]⟩) (S:=⟨#[]⟩) (E:=1) (by unfold laidF;rw [if_neg hk,hp])).mono ?_
  rintro e w' ⟨rfl,hb⟩
  exact ⟨0,rfl,⟨fun _=>.inr rfl,fun _=>rfl⟩,hb⟩
 | some bs=>
  refine (tcost_any h.i.tp.tg h.i.tp.rc.roomOk M vk hks hcap hs (F:=⟨(tfill (roomT z.x.i0 (bytesI z.x.l)) bs.length).toArray⟩) (S:=⟨bs.toArray⟩) (E:=0) (by unfold laidF;rw [if_neg hk,hp])).mono ?_
  rintro e w' ⟨rfl,hb⟩
  obtain ⟨l3,_⟩:=putO_len hk hp
  refine ⟨(⟨(tfill (roomT z.x.i0 (bytesI z.x.l)) bs.length).toArray⟩:ByteArray).size+(⟨bs.toArray⟩:ByteArray).size,by rw [Int.natCast_add],⟨fun e=>?_,fun e=>?_⟩,hb⟩
  ·rw [sizeL] at e
   have:(⟨bs.toArray⟩:ByteArray).size=bs.length:=sizeL bs
   omega
  ·rcases e with e|e
   ·exact absurd e hk
   ·cases e
theorem part_len:∀ (ws:WL) (x:Nat),(comeL ws x).length+(restL ws x).length=ws.length
 | [],_=>rfl
 | p :: ws,x=>by
  have:=part_len ws x
  unfold comeL restL at this ⊢
  rw [List.filter_cons,List.filter_cons]
  by_cases h:p.1=x<;>simp [h]<;>omega
theorem EnA.next_ {w0 w:World} {B:EnB} {z:EnG} {done rest:List RcM} {k j:Nat} (h:EnA w0 w B z done rest k j) (hk:k≤100) (hj:j≤100) (hh:z.hd≤1000) :
 Calls Tryz.prog 16 #[.pointer (some ⟨B.lb,0,none⟩),.int .i64 ((z.hd+1:Nat):Int)] w fun e w'=>∃ a n cap z',e = .returned (.tuple #[.slice a n cap,.bool true,.int .i64 0])∧EnA w0 w' B z' done rest k (j+1)∧QTo w (z.own B) w' (z'.own B)∧z'.x=z.x∧z'.M=z.M∧z'.hd=z.hd+1∧z'.ws.length+n=z.ws.length∧z'.L=z.L:=by
 have h1:=h.dl
 have h2:=h.n
 have h3:=h.P
 have h4:=h.cap
 have h5:=h.ws
 refine (h.i.lg.next (by omega) _ (by omega) (by omega) (by omega)).mono ?_
 rintro e w' ⟨v,F',l,rfl,hT,hF,hv,_⟩
 obtain ⟨a,cap,rfl⟩:=hv.row.len layM
 obtain ⟨d1,d2⟩:=h.i.log hT hF
 have hpl:=part_len z.ws (z.hd+1)
 have hll:=hv.len
 refine ⟨a,l.length,cap,_,rfl,⟨d1,h.rs,h.c,h.i0,h.rl,h.ll,h.xn,h.ok,h.len,h.xcap,h.xsz,h.cap,?_,?_,?_,h.ml⟩,d2,rfl,rfl,rfl,?_,rfl⟩
 ·show z.n+2≤_
  omega
 ·show z.P+z.ws.length≤_
  omega
 ·show (restL z.ws (z.hd+1)).length+z.L.length≤_
  omega
 ·show (restL z.ws (z.hd+1)).length+_=_
  omega
theorem leftN_x {z z':EnG} (h:z'.x.m.synced=z.x.m.synced) (r:List RcM):leftN z' r=leftN z r:=by unfold leftN;rw [h]
theorem left_gone {z:EnG} {d r:List RcM} (h:schd d=[]):leftN z (d ++ r)=leftN z r:=by unfold leftN;rw [schd_app,h,List.nil_append]
theorem left_none {z:EnG} {r:List RcM} (h:∀ x∈r,z.x.m.synced≤(x.id:Int)):leftN z r=0:=by
 unfold leftN
 rw [List.length_eq_zero_iff]
 exact List.filter_eq_nil_iff.2 fun x hx=>by have:=h x (List.mem_filter.1 hx).1;simp;omega
theorem left_some {z:EnG} {d r:List RcM} (h:∀ x∈schd d,(x.id:Int)<z.x.m.synced):leftN z (d ++ r)=(schd d).length+leftN z r:=by
 unfold leftN
 rw [schd_app,List.filter_append,List.length_append]
 congr 1
 rw [List.filter_eq_self.2 fun x hx=>by have:=h x hx;simpa using this]
theorem EnA.sorted {w0 w:World} {B:EnB} {z:EnG} {done rest:List RcM} {k j:Nat} (h:EnA w0 w B z done rest k j):rest.Pairwise (fun a b=>a.id+a.len≤b.id):=by
 have:=recsI_sorted h.i.tp.la'
 have e:recsI (1024*z.x.i0) z.x.l=done ++ rest:=h.rs
 rw [e] at this
 exact (List.pairwise_append.1 this).2.1
theorem AllE.none {z:EnG} {r:List RcM} (h:AllE z r) (hs:r.Pairwise (fun a b=>a.id+a.len≤b.id)):∀ x∈r,z.x.m.synced≤(x.id:Int):=by
 rcases h with h|⟨x,l,rfl,h⟩
 ·rw [h];intro x hx;cases hx
 ·intro y hy
  rcases List.mem_cons.1 hy with rfl|hy
  ·exact h
  ·have:=(List.pairwise_cons.1 hs).1 y hy
   omega
theorem note_msg {M:PM} {id due ref:Int}:(noteP M id 1 due ref).2=M:=by
 unfold noteP
 split
 ·rfl
 ·rw [if_pos]
  unfold behP
  rw [if_neg (fun x=>by have:=x.2;omega),if_neg (fun x=>by have:=x.2;omega),if_neg (fun x=>by have:=x.2;omega)]
theorem note_cancel {M:PM} {id due ref:Int} (h0:0≤id):(stP M ref=1∧(noteP M id 4 due ref).2=putP M ref (3,0))∨(stP M ref≠1∧(noteP M id 4 due ref).2=M):=by
 have e:ofP id 4 ref=ref:=by unfold ofP;rw [if_neg (by omega)]
 by_cases hs:stP M ref=1
 ·refine .inl ⟨hs,?_⟩
  unfold noteP
  rw [if_neg (by omega),e]
  have hb:behP ((getK M ref).getD (0,0)) 4 due=(3,0):=by
   unfold behP
   rw [if_neg (fun x=>by have:=x.2;omega),if_neg (fun x=>by have:=x.2;omega),if_pos ⟨hs,rfl⟩]
  rw [hb,if_neg]
  intro hx
  unfold stP at hs
  rw [←hx] at hs
  cases hs
 ·refine .inr ⟨hs,?_⟩
  unfold noteP
  rw [if_neg (by omega),e,if_pos]
  unfold behP
  rw [if_neg (fun x=>by have:=x.2;omega),if_neg (fun x=>by have:=x.2;omega),if_neg (fun x=>hs x.1)]
structure PuG where
 b:Nat→Value
 rv:Nat→Value
 rl:Nat→List Int
 G:List (Int×Bool)
def updN {α:Type} (f:Nat→α) (i:Nat) (v:α):Nat→α:=fun j=>if j=i then v else f j
theorem updN_same {α:Type} (f:Nat→α) (i:Nat) (v:α):updN f i v i=v:=if_pos rfl
theorem updN_other {α:Type} (f:Nat→α) {i j:Nat} (v:α) (h:j≠i):updN f i v j=f j:=if_neg h
def PuG.part (B:EnB) (z:EnG) (rb:Nat) (x:PuG) (i q:Nat):Prop:=(i≤8∧q=rb+i)∨((9≤i∧i≤11)∧(x.rv i).ownBlock=some q)∨(i=12∧z.own B q)
def ctP:Nat→TypeId
 | 1=>3
 | 2=>32
 | 3=>32
 | 5=>33
 | 8=>32
 | _=>3
def isBox (i:Nat):Bool:=i == 1 || i == 2 || i == 3 || i == 5 || i == 6 || i == 7 || i == 8
structure PuI (w0 w:World) (B:EnB) (z:EnG) (rb:Nat) (x:PuG):Prop where
 rig:w.heap[rb]? = some (.cells (rigC B) 29 (0,0))
 box:∀ i,isBox i=true→w.heap[rb+i]? = some (.cells #[x.b i] (ctP i) (0,0))
 map:MapK nK boolEl w (rb+4) x.G
 row:∀ i,9≤i→i≤11→GRow 3 1 ienK w (x.rv i) (x.rl i)
 low:∀ i q,x.part B z rb i q→w0.heap.size≤q
 lt:∀ i q,x.part B z rb i q→q<w.heap.size
 ap:∀ i j,i≠j→∀ q,x.part B z rb i q→¬ x.part B z rb j q
variable {w0 w w':World} {B:EnB} {z z':EnG} {rb:Nat} {x x':PuG}
theorem isBox_le {i:Nat} (h:isBox i=true):1≤i∧i≤8∧i≠4:=by
 simp only [isBox,Bool.or_eq_true,beq_iff_eq] at h
 omega
theorem part_blk {i:Nat} (h:i≤8):x.part B z rb i (rb+i):=.inl ⟨h,rfl⟩
theorem part_row {i q:Nat} (h1:9≤i) (h2:i≤11) (h:(x.rv i).ownBlock=some q):x.part B z rb i q:=.inr (.inl ⟨⟨h1,h2⟩,h⟩)
theorem part_own {q:Nat} (h:z.own B q):x.part B z rb 12 q:=.inr (.inr ⟨rfl,h⟩)
theorem PuI.turn (h:PuI w0 w B z rb x) (i0:Nat) (hp:∀ j,j≠i0→∀ q,x'.part B z' rb j q↔x.part B z rb j q) (hc:Chg (x.part B z rb i0) w w') (hn:∀ q,x'.part B z' rb i0 q→x.part B z rb i0 q∨w.heap.size≤q) (hl:∀ q,x'.part B z' rb i0 q→q<w'.heap.size) :
 (∀ i q,x'.part B z' rb i q→w0.heap.size≤q)∧(∀ i q,x'.part B z' rb i q→q<w'.heap.size)∧(∀ i j,i≠j→∀ q,x'.part B z' rb i q→¬ x'.part B z' rb j q):=by
 have hs0:w0.heap.size≤w.heap.size:=by
  have h1:=h.low 0 _ (part_blk (by decide))
  have h2:=h.lt 0 _ (part_blk (by decide))
  omega
 refine ⟨fun i q hi=>?_,fun i q hi=>?_,fun i j hij q hi hj=>?_⟩
 ·by_cases e:i=i0
  ·subst e
   rcases hn q hi with a|a
   ·exact h.low _ q a
   ·omega
  ·exact h.low i q ((hp i e q).1 hi)
 ·by_cases e:i=i0
  ·subst e;exact hl q hi
  ·exact Nat.lt_of_lt_of_le (h.lt i q ((hp i e q).1 hi)) hc.size
 ·by_cases e:i=i0
  ·subst e
   have hj':=(hp j (Ne.symm hij) q).1 hj
   rcases hn q hi with a|a
   ·exact h.ap i j hij q a hj'
   ·have:=h.lt j q hj';omega
  ·have hi':=(hp i e q).1 hi
   by_cases e2:j=i0
   ·subst e2
    rcases hn q hj with a|a
    ·exact h.ap i j hij q hi' a
    ·have:=h.lt i q hi';omega
   ·exact h.ap i j hij q hi' ((hp j e2 q).1 hj)
theorem PuI.enq (h:PuI w0 w B z rb x) (hq:QTo w (z.own B) w' (z'.own B)) (hl:∀ q,z'.own B q→q<w'.heap.size):PuI w0 w' B z' rb x:=by
 have hS:∀ q,z.own B q→x.part B z rb 12 q:=fun q a=>part_own a
 have hc:Chg (x.part B z rb 12) w w':=hq.chg.wide (fun q _ a=>hS q a)
 obtain ⟨t1,t2,t3⟩:=h.turn (x':=x) (z':=z') (w':=w') 12 (fun j hj q=>by unfold PuG.part;simp [hj]) hc (fun q a=>by
  rcases a with ⟨a,_⟩|⟨⟨_,a⟩,_⟩|⟨_,a⟩
  ·omega
  ·omega
  ·exact (hq.new q a).imp part_own id) (fun q a=>by
  rcases a with ⟨a,_⟩|⟨⟨_,a⟩,_⟩|⟨_,a⟩
  ·omega
  ·omega
  ·exact hl q a)
 refine ⟨hc.heap h.rig (h.ap 0 12 (by decide) _ (part_blk (by decide))),fun i hi=>?_,h.map.heap (hc.block _ h.map.lt (h.ap 4 12 (by decide) _ (part_blk (by decide)))),fun i h1 h2=>?_,t1,t2,t3⟩
 ·obtain ⟨_,b2,_⟩:=isBox_le hi
  exact hc.heap (h.box i hi) (h.ap i 12 (by omega) _ (part_blk b2))
 ·exact (h.row i h1 h2).chg hc (fun g hg=>h.ap i 12 (by omega) g (part_row h1 h2 hg))
theorem PuI.new (h:PuI w0 w B z rb x) (hc:Chg (fun _=>False) w w'):PuI w0 w' B z rb x:=
 h.enq (QTo.of_new hc) (fun q a=>Nat.lt_of_lt_of_le (h.lt 12 q (part_own a)) hc.size)
theorem PuI.set (h:PuI w0 w B z rb x) (i:Nat) (hi:isBox i=true) (v:Value):PuI w0 (w.setCell ⟨rb+i,0,none⟩ v) B z rb { x with b:=updN x.b i v }∧Chg (fun q=>q=rb+i) w (w.setCell ⟨rb+i,0,none⟩ v):=by
 have hch:Chg (fun q=>q=rb+i) w (w.setCell ⟨rb+i,0,none⟩ v):=Chg.setCell (S:=fun q=>q=rb+i) (p:=⟨rb+i,0,none⟩) (Chg.refl _ _) (fun _=>rfl) _
 obtain ⟨b1,b2,b3⟩:=isBox_le hi
 have hS:∀ q,q=rb+i→x.part B z rb i q:=fun q e=>e▸part_blk b2
 have ha:∀ j,j≠i→∀ q,x.part B z rb j q→¬ q=rb+i:=fun j hj q hq e=>h.ap j i hj q hq (hS q e)
 refine ⟨⟨hch.heap h.rig (ha 0 (by omega) _ (part_blk (by decide))),fun j hj=>?_,h.map.heap (hch.block _ h.map.lt (ha 4 (Ne.symm b3) _ (part_blk (by decide)))),fun j h1 h2=>(h.row j h1 h2).chg hch (fun g hg=>ha j (by omega) g (part_row h1 h2 hg)),h.low,fun j q hq=>Nat.lt_of_lt_of_le (h.lt j q hq) hch.size,h.ap⟩,hch⟩
 by_cases e:j=i
 ·subst e
  show _=some (Obj.cells #[updN x.b j v j] (ctP j) (0,0))
  rw [updN_same]
  exact heap_setCell_same w (rb+j) 0 _ _ v (h.box j hj)
 ·show _=some (Obj.cells #[updN x.b i v j] (ctP j) (0,0))
  rw [updN_other _ _ e]
  obtain ⟨_,c2,_⟩:=isBox_le hj
  exact hch.heap (h.box j hj) (ha j e _ (part_blk c2))
theorem PuI.app (h:PuI w0 w B z rb x) (r:Nat) (h1:9≤r) (h2:r≤11) (hl:(x.rl r).length≤1000) (a:Int) {q c:Nat} (hq:w.cell? ⟨q,0,none⟩=some (.int .i64 a)) (ty:TypeId) :
 ∃ v' w',(Builtin.append_ #[32,32] ty #[x.rv r,.slice (some ⟨q,0,none⟩) 1 c]).run Tryz.prog w = .ok v' w'∧PuI w0 w' B z rb { x with rv:=updN x.rv r v',rl:=updN x.rl r (x.rl r ++ [a])}∧Chg (fun q=>(x.rv r).ownBlock=some q) w w'∧(∃ va vc,v' = .slice va ((x.rl r).length+1) vc):=by
 have hcell:∀ j u,(ienK a)[j]? = some u→w.cell? ⟨q,j,none⟩=some u:=fun j u hu=>by
  match j with
  | 0=>simp [ienK] at hu;subst hu;exact hq
  | j+1=>simp [ienK] at hu
 obtain ⟨v',w5,hrun,hA⟩:=gapp_g layK (w:=w) a (q:=q) (c:=c) (h.row r h1 h2) (by omega) hcell ty
 have hg:=Chg.of_grown (S:=fun q=>(x.rv r).ownBlock=some q) hA.grown (fun q hq _=>hq)
 have hc:Chg (x.part B z rb r) w w5:=hg.wide (fun q _ e=>part_row h1 h2 e)
 have hr12:r≠12:=by omega
 obtain ⟨t1,t2,t3⟩:=h.turn (x':={ x with rv:=updN x.rv r v',rl:=updN x.rl r (x.rl r ++ [a])}) (z':=z) (w':=w5) r (fun j hj q=>by
  unfold PuG.part
  dsimp only
  rw [updN_other _ _ hj]) hc (fun q hx=>by
  rcases hx with ⟨e,_⟩|⟨_,e⟩|⟨e,_⟩
  ·omega
  ·dsimp only at e
   rw [updN_same] at e
   rcases hA.own with o|o
   ·rw [o] at e;exact .inl (part_row h1 h2 e)
   ·rw [o] at e
    injection e with e
    exact .inr (by omega)
  ·omega) (fun q hx=>by
  rcases hx with ⟨e,_⟩|⟨_,e⟩|⟨e,_⟩
  ·omega
  ·dsimp only at e
   rw [updN_same] at e
   exact hA.row.lt q e
  ·omega)
 have ha:∀ j,j≠r→∀ q,x.part B z rb j q→¬ (x.rv r).ownBlock=some q:=fun j hj q hp e=>h.ap j r hj q hp (part_row h1 h2 e)
 obtain ⟨va,vc,hv⟩:=hA.row.len layK
 refine ⟨v',w5,hrun,⟨hg.heap h.rig (ha 0 (by omega) _ (part_blk (by decide))),fun i hi=>?_,h.map.heap (hg.block _ h.map.lt (ha 4 (by omega) _ (part_blk (by decide)))),fun i a1 a2=>?_,t1,t2,t3⟩,hg,va,vc,by rw [hv,List.length_append];rfl⟩
 ·obtain ⟨_,b2,_⟩:=isBox_le hi
  exact hg.heap (h.box i hi) (ha i (by omega) _ (part_blk b2))
 ·by_cases e:i=r
  ·subst e
   show GRow _ _ _ _ (updN x.rv i v' i) (updN x.rl i _ i)
   rw [updN_same,updN_same]
   exact hA.row
  ·show GRow _ _ _ _ (updN x.rv r v' i) (updN x.rl r _ i)
   rw [updN_other _ _ e,updN_other _ _ e]
   exact (h.row i a1 a2).chg hg (fun g hx=>ha i e g (part_row a1 a2 hx))
theorem PuI.mapped (h:PuI w0 w B z rb x) {G':List (Int×Bool)} (hm:MapK nK boolEl w' (rb+4) G') (hc:Chg (fun q=>q=rb+4) w w'):PuI w0 w' B z rb { x with G:=G' }:=by
 have ha:∀ j,j≠4→∀ q,x.part B z rb j q→¬ q=rb+4:=fun j hj q hq e=>h.ap j 4 hj q hq (e▸part_blk (by decide))
 refine ⟨hc.heap h.rig (ha 0 (by decide) _ (part_blk (by decide))),fun i hi=>?_,hm,fun i h1 h2=>(h.row i h1 h2).chg hc (fun g hg=>ha i (by omega) g (part_row h1 h2 hg)),h.low,fun j q hq=>Nat.lt_of_lt_of_le (h.lt j q hq) hc.size,h.ap⟩
 obtain ⟨_,b2,b3⟩:=isBox_le hi
 exact hc.heap (h.box i hi) (ha i b3 _ (part_blk b2))
theorem PuI.cell (h:PuI w0 w B z rb x) (i:Nat) (hi:isBox i=true):w.cell? ⟨rb+i,0,none⟩=some (x.b i)∧w.frozen? ⟨rb+i,0,none⟩=false:=by
 have:=h.box i hi
 constructor<;>simp [World.cell?,World.frozen?,this]
theorem PuI.rigs (h:PuI w0 w B z rb x):w.cell? ⟨rb,0,none⟩=some (.pointer (some ⟨B.tb,0,none⟩))∧w.cell? ⟨rb,1,none⟩=some (.pointer (some ⟨B.sb,0,none⟩))∧w.cell? ⟨rb,2,none⟩=some (.pointer (some ⟨B.lb,0,none⟩))∧w.cell? ⟨rb,3,none⟩=some (.pointer (some ⟨B.eb,0,none⟩)):=by
 have h:=h.rig
 refine ⟨?_,?_,?_,?_⟩<;>simp [World.cell?,h,rigC]
structure PuA (w0 w:World) (B:EnB) (z:EnG) (rb:Nat) (x:PuG) (done rest:List RcM) (k j:Nat):Prop where
 a:EnA w0 w B z done rest k j
 p:PuI w0 w B z rb x
variable {done rest done' rest':List RcM} {k j k' j':Nat}
theorem PuA.enq (h:PuA w0 w B z rb x done rest k j) (ha:EnA w0 w' B z' done' rest' k' j') (hq:QTo w (z.own B) w' (z'.own B)):PuA w0 w' B z' rb x done' rest' k' j':=⟨ha,h.p.enq hq ha.i.lt⟩
theorem PuA.new (h:PuA w0 w B z rb x done rest k j) (hc:Chg (fun _=>False) w w'):PuA w0 w' B z rb x done rest k j:=⟨h.a.new hc,h.p.new hc⟩
theorem PuA.more (h:PuA w0 w B z rb x done rest k j) (hk:k≤k') (hj:j≤j'):PuA w0 w B z rb x done rest k' j':=⟨h.a.more hk hj,h.p⟩
theorem PuA.set (h:PuA w0 w B z rb x done rest k j) (i:Nat) (hi:isBox i=true) (v:Value):PuA w0 (w.setCell ⟨rb+i,0,none⟩ v) B z rb { x with b:=updN x.b i v } done rest k j:=by
 obtain ⟨a,hc⟩:=h.p.set i hi v
 obtain ⟨_,b2,_⟩:=isBox_le hi
 refine ⟨h.a.away hc (fun q hq e=>h.p.ap 12 i (by omega) q (part_own hq) (e▸part_blk b2)) (fun q e=>?_),a⟩
 rw [e]
 exact h.p.low i _ (part_blk b2)
theorem PuA.app (h:PuA w0 w B z rb x done rest k j) (r:Nat) (h1:9≤r) (h2:r≤11) (hl:(x.rl r).length≤1000) (a:Int) {q c:Nat} (hq:w.cell? ⟨q,0,none⟩=some (.int .i64 a)) (ty:TypeId) :
 ∃ v' w',(Builtin.append_ #[32,32] ty #[x.rv r,.slice (some ⟨q,0,none⟩) 1 c]).run Tryz.prog w = .ok v' w'∧PuA w0 w' B z rb { x with rv:=updN x.rv r v',rl:=updN x.rl r (x.rl r ++ [a])} done rest k j∧Chg (fun q=>(x.rv r).ownBlock=some q) w w'∧(∃ va vc,v' = .slice va ((x.rl r).length+1) vc):=by
 obtain ⟨v',w5,e1,e2,e3,e4⟩:=h.p.app r h1 h2 hl a hq ty
 exact ⟨v',w5,e1,⟨h.a.away e3 (fun q hq e=>h.p.ap 12 r (by omega) q (part_own hq) (part_row h1 h2 e)) (fun q e=>h.p.low r q (part_row h1 h2 e)),e2⟩,e3,e4⟩
theorem PuA.mapped (h:PuA w0 w B z rb x done rest k j) {G':List (Int×Bool)} (hm:MapK nK boolEl w' (rb+4) G') (hc:Chg (fun q=>q=rb+4) w w'):PuA w0 w' B z rb { x with G:=G' } done rest k j:=
 ⟨h.a.away hc (fun q hq e=>h.p.ap 12 4 (by decide) q (part_own hq) (e▸part_blk (by decide))) (fun q e=>by rw [e];exact h.p.low 4 _ (part_blk (by decide))),h.p.mapped hm hc⟩
attribute [local go_sem] fr_opt
structure PuC (x:PuG) (rb at_ seen puts:Nat):Prop where
 b1:x.b 1 = .int .i64 (at_:Int)
 b2:x.b 2=x.rv 9
 b3:x.b 3=x.rv 10
 b5:x.b 5 = .map (some (rb+4))
 b6:x.b 6 = .int .i64 (seen:Int)
 b7:x.b 7 = .int .i64 (puts:Int)
 b8:x.b 8=x.rv 11
theorem PuI.look {w0 w:World} {B:EnB} {z:EnG} {rb:Nat} {x:PuG} (h:PuI w0 w B z rb x) (a:Int) (ha:(Lit.int .i64 a).wf=true) :
 (Instr.lookup 33 (.map (some (rb+4))) (.int .i64 a) false).run Tryz.prog w = .ok (.bool ((getK x.G a).getD false)) w:=
 h.map.look (K:=nK) (E:=boolEl) (t:=33) (e:=4) Tryz.underlying33 (bool_zero _) a ha false
def CloG (w0:World) (B:EnB) (z:EnG) (rb:Nat) (x:PuG) (done rest:List RcM) (k j:Nat) (a:Int) (p:Nat) (u22 u23:Value) (w:World):Prop:=
 match p with
 | 0=>PuA w0 w B z rb x done rest k j
 | 1=>PuA w0 w B z rb x done rest k j∧∃ q,u22 = .slice (some ⟨q,0,none⟩) 1 1∧w.cell? ⟨q,0,none⟩=some (.int .i64 a)
 | 2=>PuA w0 w B z rb { x with rv:=updN x.rv 11 u23,rl:=updN x.rl 11 (x.rl 11 ++ [a])} done rest k j∧∃ va vn vc,u23 = .slice va vn vc
 | _+3=>PuA w0 w B z rb { x with b:=updN x.b 8 u23,rv:=updN x.rv 11 u23,rl:=updN x.rl 11 (x.rl 11 ++ [a])} done rest k j
theorem CloG.pua {w0 w:World} {B:EnB} {z:EnG} {rb:Nat} {x:PuG} {done rest:List RcM} {k j:Nat} {a:Int} {p:Nat} {u22 u23:Value} (h:CloG w0 B z rb x done rest k j a p u22 u23 w) (hp:p≤1):PuA w0 w B z rb x done rest k j:=by
 match p,h with
 | 0,h=>exact h
 | 1,h=>exact h.1
 | p+2,h=>omega
def CloTo (w0:World) (B:EnB) (z:EnG) (rb:Nat) (x:PuG) (done rest:List RcM) (k j at_ seen puts N:Nat) (e:Ending) (w':World):Prop:=
 e = .returned (.tuple #[])∧N≤w'.heap.size∧∃ x' puts',PuA w0 w' B z rb x' done rest k j∧PuC x' rb at_ (seen+1) puts'∧x'.G=x.G∧x'.rl 9=x.rl 9∧x'.rl 10=x.rl 10 ∧
  (if (getK x.G (seen:Int)).getD false=true then x'.rl 11=x.rl 11∧puts'=puts else if (x.rl 10).getD seen 0≤(at_:Int) then x'.rl 11=x.rl 11 ++ [(x.rl 9).getD seen 0]∧puts'=puts else x'.rl 11=x.rl 11∧puts'=puts+1)
theorem PuC.seen {x:PuG} {rb at_ seen puts:Nat} (h:PuC x rb at_ seen puts) (s:Nat):PuC { x with b:=updN x.b 6 (.int .i64 (s:Int))} rb at_ s puts:=
 ⟨h.b1,h.b2,h.b3,h.b5,rfl,h.b7,h.b8⟩
theorem PuC.puts {x:PuG} {rb at_ seen puts:Nat} (h:PuC x rb at_ seen puts) (s:Nat):PuC { x with b:=updN x.b 7 (.int .i64 (s:Int))} rb at_ seen s:=
 ⟨h.b1,h.b2,h.b3,h.b5,h.b6,rfl,h.b8⟩
theorem PuC.late {x:PuG} {rb at_ seen puts:Nat} (h:PuC x rb at_ seen puts) (v:Value) (l:List Int):PuC { x with b:=updN x.b 8 v,rv:=updN x.rv 11 v,rl:=updN x.rl 11 l } rb at_ seen puts:=
 ⟨h.b1,h.b2,h.b3,h.b5,h.b6,h.b7,rfl⟩
set_option maxHeartbeats 4000000 in
set_option maxRecDepth 100000 in
theorem pclo_any {w0 w:World} {B:EnB} {z:EnG} {rb:Nat} {x:PuG} {done rest:List RcM} {k j at_ seen puts:Nat} (h:PuA w0 w B z rb x done rest k j) (hc:PuC x rb at_ seen puts) (hs:seen<(x.rl 9).length) (hd:(x.rl 10).length=(x.rl 9).length) (h9:(x.rl 9).length≤1000) (h11:(x.rl 11).length≤1000) (hp:puts≤1000000) :
 Calls Tryz.prog 9 #[.pointer (some ⟨rb+5,0,none⟩),.pointer (some ⟨rb+6,0,none⟩),.pointer (some ⟨rb+3,0,none⟩),.pointer (some ⟨rb+1,0,none⟩),.pointer (some ⟨rb+8,0,none⟩),.pointer (some ⟨rb+2,0,none⟩),.pointer (some ⟨rb+7,0,none⟩)] w (CloTo w0 B z rb x done rest k j at_ seen puts w.heap.size):=by
 have hlk:=h.p.look (seen:Int) (twf_nat _ (by omega))
 obtain ⟨c5,_⟩:=h.p.cell 5 rfl
 obtain ⟨c6,f6⟩:=h.p.cell 6 rfl
 rw [hc.b5] at c5
 rw [hc.b6] at c6
 have e1:IntKind.i64.wrap ((seen:Int)+1)=((seen+1:Nat):Int):=by rw [IntWalk.i64_in _ (by omega)];omega
 have e2:IntKind.i64.wrap ((puts:Int)+1)=((puts+1:Nat):Int):=by rw [IntWalk.i64_in _ (by omega)];omega
 obtain ⟨gg,hgg⟩:∃ b,b=(getK x.G (seen:Int)).getD false:=⟨_,rfl⟩
 rw [←hgg] at hlk
 have HH:=Lib.hid h
 have HC:=Lib.hid hc
 cases gg with
 | true=>
  have HE:Hid (CloTo w0 B z rb x done rest k j at_ seen puts w.heap.size (.returned (.tuple #[])) (w.setCell ⟨rb+6,0,none⟩ (.int .i64 ((seen+1:Nat):Int)))):=
   Lib.hid ⟨rfl,by simp,_,puts,h.set 6 rfl _,hc.seen (seen+1),rfl,rfl,rfl,by rw [←hgg,if_pos rfl];exact ⟨rfl,rfl⟩⟩
  obtain ⟨sn,hsn⟩:∃ y:Int,y=((seen+1:Nat):Int):=⟨_,rfl⟩
  rw [←hsn] at e1 HE
  clear h hc hs hd h9 h11 hp hgg e2 hsn HH HC
  go_enter Tryz.func9,Tryz.ntmps9
  go_wp2_with fail
  go_end0
  exact HE.out
 | false=>
  obtain ⟨c1,_⟩:=h.p.cell 1 rfl
  obtain ⟨c3,_⟩:=h.p.cell 3 rfl
  obtain ⟨c7,f7⟩:=h.p.cell 7 rfl
  rw [hc.b1] at c1
  rw [hc.b3] at c3
  rw [hc.b7] at c7
  obtain ⟨d,hdd⟩:∃ d,(x.rl 10)[seen]? = some d:=⟨_,List.getElem?_eq_getElem (by omega)⟩
  obtain ⟨da,dc,hdv⟩:=(h.p.row 10 (by decide) (by decide)).len layK
  have hdr:=h.p.row 10 (by decide) (by decide)
  rw [hdv] at hdr c3
  obtain ⟨dg,rfl,hdc⟩:=hdr.at_ layK hdd
  have k0:=hdc 0 (.int .i64 d) rfl
  rw [Nat.mul_one,Nat.add_zero] at k0
  obtain ⟨a,haa⟩:∃ a,(x.rl 9)[seen]? = some a:=⟨_,List.getElem?_eq_getElem hs⟩
  have hdg:(x.rl 10).getD seen 0=d:=by rw [List.getD_eq_getElem?_getD,hdd];rfl
  have hag:(x.rl 9).getD seen 0=a:=by rw [List.getD_eq_getElem?_getD,haa];rfl
  obtain ⟨n,hn⟩:∃ n,n=(x.rl 9).length:=⟨_,rfl⟩
  rw [hd,←hn] at c3
  have hsn1:(seen:Int)<(n:Int):=by omega
  obtain ⟨ia,ic,hiv⟩:=(h.p.row 9 (by decide) (by decide)).len layK
  have hir:=h.p.row 9 (by decide) (by decide)
  rw [hiv] at hir
  obtain ⟨ig,rfl,_⟩:=hir.at_ layK haa
  have HIV:=Lib.hid hiv
  have HGG:=Lib.hid hgg
  have HDA:=Lib.hid (And.intro hdg hag)
  have HAA:=Lib.hid haa
  have HNN:=Lib.hid hn
  have HL:=Lib.hid (And.intro h9 h11)
  have HSS:=Lib.hid hs
  have E1:=Lib.hid e1
  by_cases hle:d≤(at_:Int)
  ·obtain ⟨dd,hdd2⟩:∃ y:Bool,y=decide (d≤(at_:Int)):=⟨_,rfl⟩
   clear h hc hs hd h9 h11 hp hgg e2 hdr hdc hdg hag haa hn hdv hdd hdd2 c7 f7 e1 hiv hir
   go_enter Tryz.func9,Tryz.ntmps9
   go_upto_region 1 with fail
   go_cut [16] (fun v16 wx=>v16 = .bool true∧∃ q,wx=w.drewN q)
   case first=>
    go_quiet (fail)
    go_wp2_with fail
    go_meet
    case rel=>exact ⟨by first|(simp;done)|(simp;omega),_,rfl⟩
   case rest=>
   obtain ⟨rfl,q0,rfl⟩:=hcut
   have hA0:=HH.out.new (chg_drewN w q0)
   have hS0:w.heap.size≤(w.drewN q0).heap.size:=(chg_drewN w q0).size
   have HS0:=Lib.hid hS0
   clear hS0
   generalize w.drewN q0=w1 at hA0 HS0 ⊢
   have HA0:=Lib.hid hA0
   clear hA0 c1 c3 c5 c6 f6 k0 hlk
   have HF2:Hid (∀ W,PuA w0 W B z rb x done rest k j→W.cell? ⟨rb+2,0,none⟩=some (.slice (some ⟨ig,0,none⟩) n ic)∧W.cell? ⟨ig,seen,none⟩=some (.int .i64 a)):=Lib.hid (fun W hW=>by
    obtain ⟨u1,_⟩:=hW.p.cell 2 rfl
    rw [HC.out.b2,HIV.out,←HNN.out] at u1
    have hr:=hW.p.row 9 (by decide) (by decide)
    rw [HIV.out] at hr
    obtain ⟨ig',e',hcc⟩:=hr.at_ layK HAA.out
    cases e'
    have:=hcc 0 (.int .i64 a) rfl
    rw [Nat.mul_one,Nat.add_zero] at this
    exact ⟨u1,this⟩)
   go_wp2_with fail
   rename_i Kc hc
   refine region_pt (n:=28) 14 [5,6,7] rfl rfl (by kernel_rfl) (by kernel_rfl) (by kernel_rfl) (fun i v=>match i with|0=>v=x.rv 11|1=>v = .slice (some ⟨ig,0,none⟩) n ic|2=>v = .int .i64 (seen:Int)|3=>v = .pointer (some ⟨ig,seen,none⟩)|4=>v = .int .i64 a|_=>True)
    (fun p f w'=>CloG w0 B z rb x done rest k j a p (f 22) (f 23) w'∧w.heap.size≤w'.heap.size) ?_ ?_ ?_
   ·exact ⟨HA0.out.new (Chg.refl _ _).drew,HS0.out⟩
   ·simp only [AllAt]
    refine ⟨?_,?_,?_,?_,?_,?_,?_,?_,trivial⟩
    ·refine StepPT.reg (fun f hp=>wanted_none rfl) (by decide) (fun d hd=>by cases hd;decide) ?_
     intro f w' p hG hup hdn hfr hp K hK
     have g4:f 4 = .pointer (some ⟨rb+8,0,none⟩):=hfr 4 (by kernel_rfl)
     have hpu:=hG.1.pua (by have:=hdn 1 (by decide) (.inl (by kernel_rfl));omega)
     have c8:=(hpu.p.cell 8 rfl).1
     rw [HC.out.b8] at c8
     clear hpu
     clear hfr hp hup hdn
     go_simp
     exact hK _ _ rfl hG
    ·refine StepPT.reg (fun f hp=>wanted_none rfl) (by decide) (fun d hd=>by cases hd;decide) ?_
     intro f w' p hG hup hdn hfr hp K hK
     have g5:f 5 = .pointer (some ⟨rb+2,0,none⟩):=hfr 5 (by kernel_rfl)
     have hpu:=hG.1.pua (by have:=hdn 1 (by decide) (.inl (by kernel_rfl));omega)
     have c2:=(HF2.out _ hpu).1
     clear hpu
     clear hfr hp hup hdn
     go_simp
     exact hK _ _ rfl hG
    ·refine StepPT.reg (fun f hp=>wanted_none rfl) (by decide) (fun d hd=>by cases hd;decide) ?_
     intro f w' p hG hup hdn hfr hp K hK
     have g1:f 1 = .pointer (some ⟨rb+6,0,none⟩):=hfr 1 (by kernel_rfl)
     have hpu:=hG.1.pua (by have:=hdn 1 (by decide) (.inl (by kernel_rfl));omega)
     have c6:=(hpu.p.cell 6 rfl).1
     rw [HC.out.b6] at c6
     clear hpu
     clear hfr hp hup hdn
     go_simp
     exact hK _ _ rfl hG
    ·refine StepPT.reg (fun f hp=>wanted_none rfl) (by decide) (fun d hd=>by cases hd;decide) ?_
     intro f w' p hG hup hdn hfr hp K hK
     have g18:f 18 = .slice (some ⟨ig,0,none⟩) n ic:=hp 1 _ 18 rfl rfl (by kernel_rfl)
     have g19:f 19 = .int .i64 (seen:Int):=hp 2 _ 19 rfl rfl (by kernel_rfl)
     clear hfr hp hup hdn
     have hlt:=hsn1
     go_simp
     exact hK _ _ (by simp) hG
    ·refine StepPT.reg (fun f hp=>wanted_none rfl) (by decide) (fun d hd=>by cases hd;decide) ?_
     intro f w' p hG hup hdn hfr hp K hK
     have g20:f 20 = .pointer (some ⟨ig,seen,none⟩):=hp 3 _ 20 rfl rfl (by kernel_rfl)
     have hpu:=hG.1.pua (by have:=hdn 1 (by decide) (.inl (by kernel_rfl));omega)
     have ci:=(HF2.out _ hpu).2
     clear hpu
     clear hfr hp hup hdn
     go_simp
     exact hK _ _ rfl hG
    ·refine StepPT.wr 0 (fun f hp=>wanted_none rfl) (by decide) rfl (fun d hd=>by cases hd;decide) (fun j hj=>by omega) ?_
     intro f w' hG hfr hp K hK
     have g21:f 21 = .int .i64 a:=hp 4 _ 21 rfl rfl (by kernel_rfl)
     clear hfr hp
     have hA:PuA w0 w' B z rb x done rest k j:=hG.1
     have hN:=hG.2
     go_simp
     exact hK _ _ (fun _=>trivial) ⟨⟨hA.new (Chg.alloc _ (Chg.refl _ _) _),_,rfl,by rw [Lib.cell_of_heap (heap_alloc_new _ _)];rfl⟩,by simp;omega⟩
    ·refine StepPT.wr 1 (fun f hp=>wanted_none rfl) (by decide) rfl (fun d hd=>by cases hd;decide) (fun j hj=>by (obtain rfl:j=0:=(by omega));kernel_rfl) ?_
     intro f w' hG hfr hp K hK
     have g17:f 17=x.rv 11:=hp 0 _ 17 rfl rfl (by kernel_rfl)
     clear hfr hp
     obtain ⟨⟨hA,q,g22,hq⟩,hN⟩:=hG
     obtain ⟨v',w2',hrun,hA2,hcA,va,vc,hv'⟩:=hA.app 11 (by decide) (by decide) HL.out.2 a (c:=1) hq 32
     unfold Oper.wp
     simp [execOp,resolve,invoke,builtin,fr_eval,g17,g22,hrun,Result.andThen]
     exact hK _ _ (fun _=>trivial) ⟨⟨hA2,va,_,vc,hv'⟩,Nat.le_trans hN hcA.size⟩
    ·refine StepPT.wr 2 (fun f hp=>wanted_none rfl) (by decide) rfl (fun d hd=>by cases hd) (fun j hj=>by rcases (by omega:j=0∨j=1) with rfl|rfl<;>kernel_rfl) ?_
     intro f w' hG hfr hp K hK
     have g4:f 4 = .pointer (some ⟨rb+8,0,none⟩):=hfr 4 (by kernel_rfl)
     clear hfr hp
     obtain ⟨⟨hA,va,vn,vc,g23⟩,hN⟩:=hG
     obtain ⟨_,f8⟩:=hA.p.cell 8 rfl
     obtain ⟨c8,_⟩:=hA.p.cell 8 rfl
     have hA2:=hA.set 8 rfl (f 23)
     rw [g23] at hA2
     have HA2:=Lib.hid hA2
     have G23:=Lib.hid g23
     clear hA hA2
     go_simp
     exact hK undef _ (fun _=>trivial) ⟨(by show PuA _ _ _ _ _ { x with b:=updN x.b 8 (f 23),rv:=updN x.rv 11 (f 23),rl:=updN x.rl 11 (x.rl 11 ++ [a])} _ _ _ _;rw [G23.out];exact HA2.out),by simp;omega⟩
   ·intro f w' hG hfr hR
    have hG3:PuA w0 w' B z rb { x with b:=updN x.b 8 (f 23),rv:=updN x.rv 11 (f 23),rl:=updN x.rl 11 (x.rl 11 ++ [a])} done rest k j:=hG.1
    have hN:=hG.2
    obtain ⟨u,hu⟩:∃ u,u=f 23:=⟨_,rfl⟩
    rw [←hu] at hG3
    obtain ⟨c6',f6'⟩:=hG3.p.cell 6 rfl
    have hC3:=HC.out.late u (x.rl 11 ++ [a])
    rw [hC3.b6] at c6'
    have hA4:=hG3.set 6 rfl (.int .i64 ((seen+1:Nat):Int))
    have hC4:=hC3.seen (seen+1)
    have HE:Hid (CloTo w0 B z rb x done rest k j at_ seen puts w.heap.size (.returned (.tuple #[])) (w'.setCell ⟨rb+6,0,none⟩ (.int .i64 ((seen+1:Nat):Int)))):=Lib.hid ⟨rfl,by simp;omega,_,puts,hA4,hC4,rfl,rfl,rfl,by rw [←HGG.out,if_neg (by simp),HDA.out.1,HDA.out.2,if_pos hle];exact ⟨rfl,rfl⟩⟩
    refine hc _ _ ?_
    have hback:=fr_back (n:=28) (f:=f) (D:=[17,18,19,20,21,22,23]) rfl (by kernel_rfl) hfr
    rw [hback]
    simp only [mixL,List.elem_eq_contains,List.contains_cons,List.contains_nil,Nat.reduceBEq,Nat.reduceAdd,Bool.or_false,Bool.or_true,Bool.false_or,Bool.true_or,cond_false,cond_true,Bool.or_self,Nat.zero_add]
    have e1:=E1.out
    obtain ⟨sn,hsn⟩:∃ y:Int,y=((seen+1:Nat):Int):=⟨_,rfl⟩
    rw [←hsn] at e1 HE
    clear hback hfr hG hG3 hC3 hA4 hC4 hR hu hsn
    go_wp2_with fail
    go_end0
    exact HE.out
  ·have HE:Hid (∀ W,Chg (fun _=>False) w W→W.cell? ⟨rb+7,0,none⟩=some (.int .i64 (puts:Int))∧W.frozen? ⟨rb+7,0,none⟩=false∧(W.setCell ⟨rb+7,0,none⟩ (.int .i64 ((puts+1:Nat):Int))).cell? ⟨rb+6,0,none⟩=some (.int .i64 (seen:Int))∧(W.setCell ⟨rb+7,0,none⟩ (.int .i64 ((puts+1:Nat):Int))).frozen? ⟨rb+6,0,none⟩=false ∧
    CloTo w0 B z rb x done rest k j at_ seen puts w.heap.size (.returned (.tuple #[])) ((W.setCell ⟨rb+7,0,none⟩ (.int .i64 ((puts+1:Nat):Int))).setCell ⟨rb+6,0,none⟩ (.int .i64 ((seen+1:Nat):Int)))):=Lib.hid (fun W hW=>by
    have i1:=HH.out.new hW
    have i2:=i1.set 7 rfl (.int .i64 ((puts+1:Nat):Int))
    have j2:=HC.out.puts (puts+1)
    have i3:=i2.set 6 rfl (.int .i64 ((seen+1:Nat):Int))
    have j3:=j2.seen (seen+1)
    obtain ⟨u1,u2⟩:=i1.p.cell 7 rfl
    obtain ⟨u3,u4⟩:=i2.p.cell 6 rfl
    rw [HC.out.b7] at u1
    rw [j2.b6] at u3
    exact ⟨u1,u2,u3,u4,rfl,by have:=hW.size;simp;omega,_,_,i3,j3,rfl,rfl,rfl,by rw [←hgg,if_neg (by simp),hdg,if_neg hle];exact ⟨rfl,rfl⟩⟩)
   obtain ⟨sn,hsn⟩:∃ y:Int,y=((seen+1:Nat):Int):=⟨_,rfl⟩
   obtain ⟨pn,hpn⟩:∃ y:Int,y=((puts+1:Nat):Int):=⟨_,rfl⟩
   rw [←hsn,←hpn] at HE
   rw [←hsn] at e1
   rw [←hpn] at e2
   clear h hc hs hd h9 h11 hp hgg hdr hdc hdg hag haa hn hdv hdd c7 f7 hsn hpn hiv hir
   go_enter Tryz.func9,Tryz.ntmps9
   go_upto_region 1 with fail
   go_cut [16] (fun v16 wx=>v16 = .bool false∧∃ q,wx=w.drewN q)
   case first=>
    go_quiet (fail)
    go_wp2_with fail
    go_meet
    case rel=>exact ⟨by first|(simp;done)|(simp;omega),_,rfl⟩
   case rest=>
   obtain ⟨rfl,q0,rfl⟩:=hcut
   obtain ⟨c7,f7,c6',f6',hE⟩:=HE.out (w.drewN q0) (chg_drewN w q0)
   have HX:=Lib.hid hE
   clear hE c1 c3 c5 c6 f6 k0 hlk
   generalize w.drewN q0=w1 at c7 f7 c6' f6' HX ⊢
   obtain ⟨w2,hw2⟩:∃ W,W=w1.setCell ⟨rb+7,0,none⟩ (.int .i64 pn):=⟨_,rfl⟩
   rw [←hw2] at c6' f6' HX
   go_upto_region 4 with fail
   rw [←hw2]
   clear hw2 c7 f7
   go_wp2_with fail
   go_end0
   exact HX.out
end Go.Proofs.YtldkapjeheiiaaaGreatDoor
namespace Go.Proofs.YtldkapjeheiiaaaGreatDoor
open Go.RowKit Go.Deep
theorem getG_put (G:List (Int×Bool)) (a:Int) (v:Bool) (b:Int):getK (dropK G a ++ [(a,v)]) b=if b=a then some v else getK G b:=by
 have hd:∀ b,b≠a→getK (dropK G a) b=getK G b:=fun b h=>by
  unfold getK dropK
  congr 1
  induction G with
  | nil=>rfl
  | cons p M ih=>
   rw [List.filter_cons]
   by_cases hp:p.1=a
   ·rw [if_neg (by simp [hp]),ih,List.find?_cons_of_neg (by simp [hp];exact fun e=>h e.symm)]
   ·rw [if_pos (by simp [hp])]
    by_cases hb:p.1=b
    ·rw [List.find?_cons_of_pos (by simp [hb]),List.find?_cons_of_pos (by simp [hb])]
    ·rw [List.find?_cons_of_neg (by simp [hb]),List.find?_cons_of_neg (by simp [hb]),ih]
 by_cases h:b=a
 ·subst h
  rw [if_pos rfl]
  have h1:(dropK G b).find? (fun p=>decide (p.1=b))=none:=List.find?_eq_none.2 fun p hp=>by
   have:=(List.mem_filter.1 hp).2
   simpa using this
  unfold getK
  rw [List.find?_append,h1]
  simp
 ·rw [if_neg h,←hd b h]
  unfold getK
  rw [List.find?_append]
  cases hf:(dropK G a).find? (fun p=>decide (p.1=b)) with
  | some p=>rfl
  | none=>
   simp
   exact fun e:a=b=>h e.symm
structure PuL (z:EnG) (done rest:List RcM) (x:PuG) (seen sy puts:Nat):Prop where
 rs:RS z=done ++ rest
 I:x.rl 9=(schd (RS z)).map fun r=>(r.id:Int)
 D:x.rl 10=(schd (RS z)).map fun r=>r.m.due
 Lt:x.rl 11=z.L
 pu:puts=z.ws.length
 sn:seen=(schd done).length
 sq:sy=seen+leftN z rest
 syn:z.x.m.synced≤((bytesI z.x.l).length:Int)
 Gt:∀ p∈x.G,p.1<((schd (RS z)).length:Int)
 st:∀ (i:Nat) (r:RcM),(schd (RS z))[i]? = some r→(stP z.M (r.id:Int)=1↔(getK x.G (i:Int)).getD false=false)
 keys:(z.M.map (·.1)).Perm ((schd (RS z)).map fun r=>(r.id:Int))
variable {z z':EnG} {done rest d r:List RcM} {x x':PuG} {seen sy puts puts':Nat}
theorem PuL.len (h:PuL z done rest x seen sy puts):(x.rl 9).length=(schd done).length+(schd rest).length∧(x.rl 10).length=(x.rl 9).length:=by
 rw [h.I,h.D,List.length_map,List.length_map,h.rs,schd_app,List.length_append]
 exact ⟨rfl,rfl⟩
theorem PuL.le (h:PuL z done rest x seen sy puts):seen≤sy∧sy≤(x.rl 9).length:=by
 have h1:=h.sq
 have h2:=h.len.1
 have h3:=h.sn
 have h4:leftN z rest≤(schd rest).length:=List.length_filter_le _ _
 omega
theorem PuL.append (h:PuL z done rest x seen sy puts) {M:MsgM} {bs:List UInt8} (hrs:RS z'=done ++ (rest ++ [⟨idL z.x.l bs,bs.length,M⟩])) (hl:z'.x.l=z.x.l ++ itemsL z.x.l M bs) (hsy:z'.x.m.synced=z.x.m.synced) (hM:z'.M=(noteP z.M ((idL z.x.l bs:Nat):Int) M.kind M.due M.ref).2)
 (hw:z'.ws=z.ws) (hL:z'.L=z.L) (hid:∀ r∈RS z,r.id<idL z.x.l bs) (hk:M.kind=1∨M.kind=2) (hx:x'.rl 9=if M.kind=2 then x.rl 9 ++ [((idL z.x.l bs:Nat):Int)] else x.rl 9) (hx2:x'.rl 10=if M.kind=2 then x.rl 10 ++ [M.due] else x.rl 10) (hx3:x'.rl 11=x.rl 11) (hG:x'.G=x.G) :
 PuL z' done (rest ++ [⟨idL z.x.l bs,bs.length,M⟩]) x' seen sy puts:=by
 have hrs2:RS z'=RS z ++ [⟨idL z.x.l bs,bs.length,M⟩]:=by rw [hrs,h.rs,List.append_assoc]
 have hge:z.x.m.synced≤((idL z.x.l bs:Nat):Int):=by have:=h.syn;unfold idL;omega
 have hlf:leftN z' (rest ++ [⟨idL z.x.l bs,bs.length,M⟩])=leftN z rest:=by
  rw [leftN_x hsy]
  unfold leftN
  rw [schd_app,List.filter_append]
  have:(schd [(⟨idL z.x.l bs,bs.length,M⟩:RcM)]).filter (fun r=>decide ((r.id:Int)<z.x.m.synced))=[]:=List.filter_eq_nil_iff.2 fun y hy=>by
   have:=(List.mem_filter.1 hy).1
   rw [List.mem_singleton] at this
   rw [this]
   simp
   omega
  rw [this,List.append_nil]
 have hsyn:z'.x.m.synced≤((bytesI z'.x.l).length:Int):=by
  have:=h.syn
  rw [hsy,hl,bytesI_app,List.length_append]
  omega
 rcases hk with hk|hk
 ·have hs:isS M=false:=by unfold isS;rw [hk];decide
  have hsc:schd (RS z')=schd (RS z):=by rw [hrs2,schd_app,schd_one,if_neg (by rw [hs];simp),List.append_nil]
  rw [hk] at hM hx hx2
  rw [note_msg] at hM
  rw [if_neg (by decide)] at hx hx2
  exact ⟨hrs,by rw [hsc,hx];exact h.I,by rw [hsc,hx2];exact h.D,by rw [hx3,hL];exact h.Lt,by rw [hw];exact h.pu,h.sn,by rw [hlf];exact h.sq,hsyn,by rw [hsc,hG];exact h.Gt,by rw [hsc,hG,hM];exact h.st,by rw [hsc,hM];exact h.keys⟩
 ·have hs:isS M=true:=by unfold isS;rw [hk];decide
  have hsc:schd (RS z')=schd (RS z) ++ [⟨idL z.x.l bs,bs.length,M⟩]:=by rw [hrs2,schd_app,schd_one,if_pos hs]
  have hfresh:stP z.M ((idL z.x.l bs:Nat):Int)=0:=stP_absent (fun hx=>by
   have:=h.keys.subset hx
   obtain ⟨y,hy,e⟩:=List.mem_map.1 this
   have:=hid y (List.mem_filter.1 hy).1
   omega)
  have hd:dropK z.M ((idL z.x.l bs:Nat):Int)=z.M:=List.filter_eq_self.2 fun p hp=>by
   have hne:p.1≠((idL z.x.l bs:Nat):Int):=fun e=>by
    have:=h.keys.subset (List.mem_map_of_mem (f:=fun p:Int×(Int×Int)=>p.1) hp)
    obtain ⟨y,hy,e2⟩:=List.mem_map.1 this
    have:=hid y (List.mem_filter.1 hy).1
    omega
   simpa using hne
  have hM2:z'.M=putP z.M ((idL z.x.l bs:Nat):Int) (1,M.due):=by
   rw [hM,hk]
   exact note_new (Int.natCast_nonneg _) hfresh
  rw [if_pos hk] at hx hx2
  refine ⟨hrs,by rw [hsc,hx,h.I,List.map_append];rfl,by rw [hsc,hx2,h.D,List.map_append];rfl,by rw [hx3,hL];exact h.Lt,by rw [hw];exact h.pu,h.sn,by rw [hlf];exact h.sq,hsyn,?_,?_,?_⟩
  ·rw [hsc,hG,List.length_append]
   intro p hp
   have:=h.Gt p hp
   simp only [List.length_cons,List.length_nil]
   omega
  ·rw [hsc,hG,hM2]
   intro i y hy
   rw [stP_put]
   rw [List.getElem?_append] at hy
   split at hy
   ·rename_i hlt
    have hym:y∈RS z:=(List.mem_filter.1 (List.mem_of_getElem? hy)).1
    have:=hid y hym
    rw [if_neg (by omega)]
    exact h.st i y hy
   ·rename_i hlt
    obtain ⟨hi0,rfl⟩:i - (schd (RS z)).length=0∧(⟨idL z.x.l bs,bs.length,M⟩:RcM)=y:=by
     cases e:i - (schd (RS z)).length with
     | zero=>rw [e] at hy;simp at hy;exact ⟨rfl,hy⟩
     | succ q=>rw [e] at hy;simp at hy
    rw [if_pos rfl]
    have hnone:getK x.G (i:Int)=none:=getK_not fun p hp e=>by
     have:=h.Gt p hp
     omega
    rw [hnone]
    simp
  ·rw [hsc,hM2,List.map_append]
   unfold putP
   rw [hd,List.map_append]
   exact h.keys.append (List.Perm.refl _)
theorem PuL.sync (h:PuL z done rest x seen sy puts) {y:TpG} (hl:y.l=z.x.l) (hi:y.i0=z.x.i0) (hs:y.m.synced=(((bytesI z.x.l).length:Nat):Int)) (hall:∀ r∈RS z,(r.id:Int)<y.m.synced):PuL { z with x:=y } done rest x seen (x.rl 9).length puts:=by
 have e:RS { z with x:=y }=RS z:=by unfold RS;dsimp only;rw [hl,hi]
 have hlf:leftN { z with x:=y } rest=(schd rest).length:=by
  unfold leftN
  congr 1
  refine List.filter_eq_self.2 fun r hr=>?_
  have:=hall r (by rw [h.rs];exact List.mem_append_right _ (List.mem_filter.1 hr).1)
  simpa using this
 refine ⟨e.trans h.rs,by rw [e];exact h.I,by rw [e];exact h.D,h.Lt,h.pu,h.sn,by rw [hlf,h.sn];exact h.len.1,?_,by rw [e];exact h.Gt,by rw [e];exact h.st,by rw [e];exact h.keys⟩
 show y.m.synced≤((bytesI y.l).length:Int)
 rw [hs,hl]
 exact Int.le_refl _
theorem PuL.none_ (h:PuL z done rest x seen sy puts) (hr:rest=d ++ r) (hd:schd d=[]) (ha:AllE z r) (hso:r.Pairwise (fun a b=>a.id+a.len≤b.id)) (hz:SameZ z z') (hw:z'.ws=z.ws) (hL:z'.L=z.L):PuL z' (done ++ d) r x seen sy puts∧sy=seen:=by
 have e:RS z'=RS z:=by unfold RS;rw [hz.x]
 have h0:leftN z r=0:=left_none (ha.none hso)
 have h1:leftN z rest=0:=by rw [hr,left_gone hd];exact h0
 have hsy:=h.sq
 have hlf:leftN z' r=0:=by rw [leftN_x (z:=z) (by rw [hz.x])];exact h0
 refine ⟨⟨by rw [e,h.rs,hr,List.append_assoc],by rw [e];exact h.I,by rw [e];exact h.D,by rw [hL];exact h.Lt,by rw [hw];exact h.pu,by rw [schd_app,hd,List.append_nil];exact h.sn,by rw [hlf];omega,by rw [hz.x];exact h.syn,by rw [e];exact h.Gt,by rw [e,hz.M];exact h.st,by rw [e,hz.M];exact h.keys⟩,by omega⟩
def Looked (z:EnG) (y:RcM) (x x':PuG) (puts puts':Nat):Prop:=
 x'.G=x.G∧x'.rl 9=x.rl 9∧x'.rl 10=x.rl 10∧x'.rl 11=x.rl 11 ++ ltR z.M z.hd y∧puts'=puts+(wsR z.M z.hd y).length
theorem looked_of {at_:Nat} {y:RcM} (hst:stP z.M (y.id:Int)=1↔(getK x.G (seen:Int)).getD false=false) (hI:(x.rl 9).getD seen 0=(y.id:Int)) (hD:(x.rl 10).getD seen 0=y.m.due) (hd0:0≤y.m.due) (hat:at_=z.hd)
 (h1:x'.G=x.G) (h2:x'.rl 9=x.rl 9) (h3:x'.rl 10=x.rl 10)
 (h:if (getK x.G (seen:Int)).getD false=true then x'.rl 11=x.rl 11∧puts'=puts else if (x.rl 10).getD seen 0≤(at_:Int) then x'.rl 11=x.rl 11 ++ [(x.rl 9).getD seen 0]∧puts'=puts else x'.rl 11=x.rl 11∧puts'=puts+1):Looked z y x x' puts puts':=by
 refine ⟨h1,h2,h3,?_⟩
 unfold ltR wsR
 rw [hI,hD,hat] at h
 cases hg:(getK x.G (seen:Int)).getD false with
 | true=>
  rw [hg] at h hst
  rw [if_pos rfl] at h
  have hn:¬ stP z.M (y.id:Int)=1:=fun e=>by have:=hst.1 e;cases this
  rw [if_neg (fun q=>hn q.1),if_neg (fun q=>hn q.1),List.append_nil]
  exact ⟨h.1,h.2⟩
 | false=>
  rw [hg] at h hst
  rw [if_neg (by simp)] at h
  have hn:stP z.M (y.id:Int)=1:=hst.2 rfl
  by_cases hle:y.m.due≤(z.hd:Int)
  ·rw [if_pos hle] at h
   rw [if_pos ⟨hn,by omega⟩,if_neg (fun q=>by omega)]
   exact ⟨h.1,h.2⟩
  ·rw [if_neg hle] at h
   rw [if_neg (fun q=>by omega),if_pos ⟨hn,by omega⟩,List.append_nil]
   exact ⟨h.1,h.2⟩
theorem PuL.at_ (h:PuL z done rest x seen sy puts) {l l':List RcM} {y:RcM} (hr:schd rest=l ++ y :: l'):(schd (RS z))[seen+l.length]? = some y∧(x.rl 9).getD (seen+l.length) 0=(y.id:Int)∧(x.rl 10).getD (seen+l.length) 0=y.m.due∧seen+l.length<(x.rl 9).length:=by
 have e:(schd (RS z))[seen+l.length]? = some y:=by
  rw [h.rs,schd_app,hr,h.sn,List.getElem?_append_right (by omega),List.getElem?_append_right (by omega)]
  simp
 refine ⟨e,?_,?_,?_⟩
 ·rw [h.I,List.getD_eq_getElem?_getD,List.getElem?_map,e];rfl
 ·rw [h.D,List.getD_eq_getElem?_getD,List.getElem?_map,e];rfl
 ·rw [h.I,List.length_map]
  exact (List.getElem?_eq_some_iff.1 e).1
theorem PuL.step (h:PuL z done rest x seen sy puts) {y:RcM} {l:List RcM} (hr:rest=d ++ y :: l) (hd:schd d=[]) (hy:isS y.m=true) (hsy:(y.id:Int)<z.x.m.synced) (hz:SameZ z z') (hw:z'.ws=z.ws ++ wsR z.M z.hd y) (hL:z'.L=z.L ++ ltR z.M z.hd y) (hx:Looked z y x x' puts puts'):PuL z' (done ++ (d ++ [y])) l x' (seen+1) sy puts'∧seen<sy:=by
 have e:RS z'=RS z:=by unfold RS;rw [hz.x]
 obtain ⟨x1,x2,x3,x4,x5⟩:=hx
 have hlf:leftN z rest=1+leftN z l:=by
  rw [hr,show d ++ y :: l=(d ++ [y]) ++ l by simp,left_some (fun q hq=>?_),schd_app,hd,schd_one,if_pos hy]
  ·rfl
  ·rw [schd_app,hd,schd_one,if_pos hy] at hq
   simp at hq
   rw [hq];exact hsy
 have h1:=h.sq
 have h2:leftN z' l=leftN z l:=leftN_x (by rw [hz.x]) l
 refine ⟨⟨by rw [e,h.rs,hr];simp,by rw [e,x2];exact h.I,by rw [e,x3];exact h.D,by rw [x4,hL,h.Lt],by rw [x5,hw,List.length_append,h.pu],?_,by rw [h2];omega,by rw [hz.x];exact h.syn,by rw [e,x1];exact h.Gt,by rw [e,x1,hz.M];exact h.st,by rw [e,hz.M];exact h.keys⟩,by omega⟩
 rw [schd_app,schd_app,hd,schd_one,if_pos hy,List.length_append,h.sn]
 rfl
structure AllL (z:EnG) (d:List RcM) (x0 x:PuG) (m puts0 puts:Nat):Prop where
 ml:m≤(schd d).length
 G:x.G=x0.G
 I:x.rl 9=x0.rl 9
 D:x.rl 10=x0.rl 10
 Lt:x.rl 11=x0.rl 11 ++ ((schd d).take m).flatMap (ltR z.M z.hd)
 pu:puts=puts0+(((schd d).take m).flatMap (wsR z.M z.hd)).length
theorem AllL.start (z:EnG) (d:List RcM) (x:PuG) (puts:Nat):AllL z d x x 0 puts puts:=⟨Nat.zero_le _,rfl,rfl,rfl,by simp,by simp⟩
theorem AllL.next {x0:PuG} {m puts0:Nat} {y:RcM} (h:AllL z d x0 x m puts0 puts) (hy:(schd d)[m]? = some y) (hx:Looked z y x x' puts puts'):AllL z d x0 x' (m+1) puts0 puts':=by
 obtain ⟨x1,x2,x3,x4,x5⟩:=hx
 have ht:(schd d).take (m+1)=(schd d).take m ++ [y]:=by rw [List.take_add_one,hy];rfl
 refine ⟨(List.getElem?_eq_some_iff.1 hy).1,x1.trans h.G,x2.trans h.I,x3.trans h.D,?_,?_⟩
 ·rw [x4,h.Lt,ht,List.flatMap_append,List.append_assoc];simp
 ·rw [x5,h.pu,ht,List.flatMap_append,List.length_append];simp;omega
theorem PuL.all_ (h:PuL z done rest x seen sy puts) (hr:rest=d ++ r) (ha:AllE z r) (hso:r.Pairwise (fun a b=>a.id+a.len≤b.id)) (hsd:∀ y∈schd d,(y.id:Int)<z.x.m.synced) (hz:SameZ z z') (hw:z'.ws=z.ws ++ (schd d).flatMap (wsR z.M z.hd)) (hL:z'.L=z.L ++ (schd d).flatMap (ltR z.M z.hd)) :
 sy=seen+(schd d).length∧∀ x' puts',AllL z d x x' (schd d).length puts puts'→PuL z' (done ++ d) r x' (seen+(schd d).length) sy puts':=by
 have e:RS z'=RS z:=by unfold RS;rw [hz.x]
 have h0:leftN z r=0:=left_none (ha.none hso)
 have h1:leftN z rest=(schd d).length:=by rw [hr,left_some hsd,h0];rfl
 have h2:=h.sq
 have hlf:leftN z' r=0:=by rw [leftN_x (z:=z) (by rw [hz.x])];exact h0
 refine ⟨by omega,fun x' puts' hx=>?_⟩
 have ht:(schd d).take (schd d).length=schd d:=List.take_length
 have hxL:=hx.Lt
 have hxP:=hx.pu
 rw [ht] at hxL hxP
 refine ⟨by rw [e,h.rs,hr,List.append_assoc],by rw [e,hx.I];exact h.I,by rw [e,hx.D];exact h.D,by rw [hxL,hL,h.Lt],by rw [hxP,hw,List.length_append,h.pu],by rw [schd_app,List.length_append,h.sn],by rw [hlf];omega,by rw [hz.x];exact h.syn,by rw [e,hx.G];exact h.Gt,by rw [e,hx.G,hz.M];exact h.st,by rw [e,hz.M];exact h.keys⟩
theorem PuL.tick (h:PuL z done rest x seen sy puts) {n:Nat} (hx:z'.x=z.x) (hM:z'.M=z.M) (hw:z'.ws.length+n=z.ws.length) (hL:z'.L=z.L) (h9:x'.rl=x.rl) (hG:x'.G=x.G) (hp:puts'+n=puts):PuL z' done rest x' seen sy puts':=by
 have e:RS z'=RS z:=by unfold RS;rw [hx]
 have h1:=h.pu
 exact ⟨e.trans h.rs,by rw [e,h9];exact h.I,by rw [e,h9];exact h.D,by rw [h9,hL];exact h.Lt,by omega,h.sn,by rw [leftN_x (z:=z) (by rw [hx])];exact h.sq,by rw [hx];exact h.syn,by rw [e,hG];exact h.Gt,by rw [e,hG,hM];exact h.st,by rw [e,hM];exact h.keys⟩
theorem PuL.cancel (h:PuL z done rest x seen sy puts) (hg:GoodP z.M) (hso:(RS z).Pairwise (fun a b=>a.id+a.len≤b.id)) (hlen:∀ r∈RS z,0<r.len) {n:Nat} {a due:Int} (hn:(x.rl 9)[n]? = some a) :
 PuL { z with M:=(noteP z.M 549755813888 4 due a).2 } done rest { x with G:=dropK x.G (n:Int) ++ [((n:Int),true)]} seen sy puts∧(noteP z.M 549755813888 4 due a).2.length=z.M.length:=by
 rw [h.I,List.getElem?_map] at hn
 obtain ⟨y,hy,rfl⟩:=Option.map_eq_some_iff.1 hn
 have hyl:=(List.getElem?_eq_some_iff.1 hy).1
 have hkeys:((noteP z.M 549755813888 4 due (y.id:Int)).2.map (·.1)).Perm (z.M.map (·.1)):=by
  rcases note_cancel (M:=z.M) (id:=549755813888) (due:=due) (ref:=(y.id:Int)) (by decide) with ⟨c1,c2⟩|⟨c1,c2⟩
  ·rw [c2];exact putP_keys hg (by omega) _
  ·rw [c2]
 have hst1:¬ stP (noteP z.M 549755813888 4 due (y.id:Int)).2 (y.id:Int)=1:=by
  rcases note_cancel (M:=z.M) (id:=549755813888) (due:=due) (ref:=(y.id:Int)) (by decide) with ⟨c1,c2⟩|⟨c1,c2⟩
  ·rw [c2,stP_put,if_pos rfl];decide
  ·rw [c2];exact c1
 have hst2:∀ b,b≠(y.id:Int)→stP (noteP z.M 549755813888 4 due (y.id:Int)).2 b=stP z.M b:=fun b hb=>by
  rcases note_cancel (M:=z.M) (id:=549755813888) (due:=due) (ref:=(y.id:Int)) (by decide) with ⟨c1,c2⟩|⟨c1,c2⟩
  ·rw [c2,stP_put,if_neg hb]
  ·rw [c2]
 have hpw:(schd (RS z)).Pairwise (fun a b=>a.id<b.id):=by
  have h1:(RS z).Pairwise (fun a b=>a.id<b.id):=by
   refine hso.imp_of_mem ?_
   intro a b ha hb hab
   have:=hlen a ha
   omega
  exact h1.sublist List.filter_sublist
 refine ⟨⟨h.rs,h.I,h.D,h.Lt,h.pu,h.sn,h.sq,h.syn,fun p hp=>?_,fun i r hr=>?_,hkeys.trans h.keys⟩,?_⟩
 ·show p.1<((schd (RS z)).length:Int)
  rcases List.mem_append.1 hp with hp|hp
  ·exact h.Gt p (List.mem_filter.1 hp).1
  ·rw [List.mem_singleton] at hp
   rw [hp]
   show (n:Int)<_
   omega
 ·have hr:(schd (RS z))[i]? = some r:=hr
  show stP (noteP z.M 549755813888 4 due (y.id:Int)).2 (r.id:Int)=1↔(getK (dropK x.G (n:Int) ++ [((n:Int),true)]) (i:Int)).getD false=false
  rw [getG_put]
  by_cases hi:i=n
  ·subst hi
   rw [hy] at hr
   injection hr with hr
   subst hr
   rw [if_pos rfl]
   constructor
   ·intro e;exact absurd e hst1
   ·intro e;cases e
  ·rw [if_neg (by omega)]
   have hne:(r.id:Int)≠(y.id:Int):=by
    obtain ⟨hil,hie⟩:=List.getElem?_eq_some_iff.1 hr
    obtain ⟨hnl,hne⟩:=List.getElem?_eq_some_iff.1 hy
    rcases Nat.lt_or_gt_of_ne hi with hlt|hgt
    ·have:=List.pairwise_iff_getElem.1 hpw i n hil hnl hlt
     rw [hie,hne] at this
     omega
    ·have:=List.pairwise_iff_getElem.1 hpw n i hnl hil hgt
     rw [hie,hne] at this
     omega
   rw [hst2 _ hne]
   exact h.st i r hr
 ·have:=hkeys.length_eq
  rwa [List.length_map,List.length_map] at this
structure PutJ (w0 w:World) (B:EnB) (z:EnG) (rb:Nat) (x:PuG) (done rest:List RcM) (k sy seen puts:Nat):Prop where
 pa:PuA w0 w B z rb x done rest k k
 c:PuC x rb z.hd seen puts
 l:PuL z done rest x seen sy puts
 hd:z.hd≤255+k
 G:x.G.length≤k
variable {w0 w w':World} {B:EnB} {z z':EnG} {rb:Nat} {x x':PuG} {done rest:List RcM} {k k' sy seen puts:Nat}
theorem PutJ.new (h:PutJ w0 w B z rb x done rest k sy seen puts) (hc:Chg (fun _=>False) w w'):PutJ w0 w' B z rb x done rest k sy seen puts:={ h with pa:=h.pa.new hc }
theorem PutJ.more (h:PutJ w0 w B z rb x done rest k sy seen puts) (hk:k≤k'):PutJ w0 w B z rb x done rest k' sy seen puts:={ h with pa:=h.pa.more hk hk,hd:=(by have:=h.hd;omega),G:=Nat.le_trans h.G hk }
theorem PutJ.lens (h:PutJ w0 w B z rb x done rest k sy seen puts):(x.rl 9).length≤k∧(x.rl 10).length=(x.rl 9).length∧(x.rl 11).length≤k∧seen≤sy∧sy≤(x.rl 9).length∧puts≤k:=by
 have h1:=h.l.len
 have h2:=h.l.le
 have h3:=h.pa.a.dl
 have h4:=schd_len rest
 have h5:=h.pa.a.ws
 have h6:=h.l.Lt
 have h7:=h.l.pu
 have h8:(x.rl 11).length=z.L.length:=by rw [h6]
 omega
theorem PutJ.cells (h:PutJ w0 w B z rb x done rest k sy seen puts):w.cell? ⟨rb+1,0,none⟩=some (.int .i64 (z.hd:Int))∧w.cell? ⟨rb+2,0,none⟩=some (x.rv 9)∧w.cell? ⟨rb+3,0,none⟩=some (x.rv 10)∧w.cell? ⟨rb+5,0,none⟩=some (.map (some (rb+4)))∧w.cell? ⟨rb+6,0,none⟩=some (.int .i64 (seen:Int))∧w.cell? ⟨rb+7,0,none⟩=some (.int .i64 (puts:Int))∧w.cell? ⟨rb+8,0,none⟩=some (x.rv 11)∧∀ i,isBox i=true→w.frozen? ⟨rb+i,0,none⟩=false:=by
 have hp:=h.pa.p
 have hc:=h.c
 refine ⟨?_,?_,?_,?_,?_,?_,?_,fun i hi=>(hp.cell i hi).2⟩
 ·rw [(hp.cell 1 rfl).1,hc.b1]
 ·rw [(hp.cell 2 rfl).1,hc.b2]
 ·rw [(hp.cell 3 rfl).1,hc.b3]
 ·rw [(hp.cell 5 rfl).1,hc.b5]
 ·rw [(hp.cell 6 rfl).1,hc.b6]
 ·rw [(hp.cell 7 rfl).1,hc.b7]
 ·rw [(hp.cell 8 rfl).1,hc.b8]
theorem PutJ.row9 (h:PutJ w0 w B z rb x done rest k sy seen puts):∃ a c,x.rv 9 = .slice a (x.rl 9).length c:=(h.pa.p.row 9 (by decide) (by decide)).len layK
structure MidJ (w0 w:World) (B:EnB) (z z':EnG) (rb:Nat) (x:PuG) (done rest:List RcM) (k sy seen puts:Nat) (M:MsgM) (bs:List UInt8):Prop where
 pa:PuA w0 w B z' rb x done (rest ++ [⟨idL z.x.l bs,bs.length,M⟩]) (k+1) (k+1)
 old:PuL z done rest x seen sy puts
 c:PuC x rb z'.hd seen puts
 l:z'.x.l=z.x.l ++ itemsL z.x.l M bs
 sy:z'.x.m.synced=z.x.m.synced
 M:z'.M=(noteP z.M ((idL z.x.l bs:Nat):Int) M.kind M.due M.ref).2
 ws:z'.ws=z.ws
 L:z'.L=z.L
 hid:∀ r∈RS z,r.id<idL z.x.l bs
 hd:z'.hd≤255+(k+1)
 G:x.G.length≤k+1
 len:(x.rl 9).length≤k∧(x.rl 10).length=(x.rl 9).length
theorem MidJ.msg {M:MsgM} {bs:List UInt8} (h:MidJ w0 w B z z' rb x done rest k sy seen puts M bs) (hk:M.kind=1):PutJ w0 w B z' rb x done (rest ++ [⟨idL z.x.l bs,bs.length,M⟩]) (k+1) sy seen puts:=
 ⟨h.pa,h.c,h.old.append h.pa.a.rs h.l h.sy h.M h.ws h.L h.hid (.inl hk) (by rw [if_neg (by omega)]) (by rw [if_neg (by omega)]) rfl rfl,h.hd,h.G⟩
def twoX (x:PuG) (v1 v2:Value) (a d:Int):PuG:={ x with b:=updN (updN x.b 2 v1) 3 v2,rv:=updN (updN x.rv 9 v1) 10 v2,rl:=updN (updN x.rl 9 (x.rl 9 ++ [a])) 10 (x.rl 10 ++ [d])}
theorem MidJ.sched {M:MsgM} {bs:List UInt8} (h:MidJ w0 w B z z' rb x done rest k sy seen puts M bs) (hk:M.kind=2) {v1 v2:Value} (hp:PuA w0 w' B z' rb (twoX x v1 v2 ((idL z.x.l bs:Nat):Int) M.due) done (rest ++ [⟨idL z.x.l bs,bs.length,M⟩]) (k+1) (k+1)) :
 PutJ w0 w' B z' rb (twoX x v1 v2 ((idL z.x.l bs:Nat):Int) M.due) done (rest ++ [⟨idL z.x.l bs,bs.length,M⟩]) (k+1) sy seen puts:=
 ⟨hp,⟨h.c.b1,rfl,rfl,h.c.b5,h.c.b6,h.c.b7,h.c.b8⟩,h.old.append h.pa.a.rs h.l h.sy h.M h.ws h.L h.hid (.inr hk) (by rw [if_pos hk];rfl) (by rw [if_pos hk];rfl) rfl rfl,h.hd,h.G⟩
theorem PutJ.add (h:PutJ w0 w B z rb x done rest k sy seen puts) (hk:k≤100) (M:MsgM) (vk:Value) (hks:Strs w 0 vk M.keys) (hcap:CapOk vk) (hs:Sound M) (hp:¬ (M.kind=0∨putO M=none)) :
 Calls Tryz.prog 12 #[.agg (rigC B),M.val vk] w fun e w'=>∃ z' bs,e = .returned (.tuple #[.int .i64 ((idL z.x.l bs:Nat):Int),.bool true])∧MidJ w0 w' B z z' rb x done rest k sy seen puts M bs∧QTo w (z.own B) w' (z'.own B):=by
 have hln:=h.lens
 refine (eadd_any h.pa.a hk M vk hks hcap hs).mono ?_
 rintro e w' (⟨q,_⟩|⟨bs,z',p1,p2,rfl,hA,hq,a1,a2,a3,a4,a5,a6,a7,a8⟩)
 ·exact absurd q hp
 ·exact ⟨z',bs,rfl,⟨(h.pa.enq hA hq).more (Nat.le_refl _) (Nat.le_succ _),h.l,by rw [a4];exact h.c,a1,a2,a3,a5,a6,a7,by rw [a4];have:=h.hd;omega,by have:=h.G;omega,by omega⟩,hq⟩
theorem PutJ.sync (h:PutJ w0 w B z rb x done rest k sy seen puts) (hk:k≤100) :
 Calls Tryz.prog 13 #[.pointer (some ⟨B.tb,0,none⟩)] w fun e w'=>e = .returned (.int .i64 0)∧∃ z',PutJ w0 w' B z' rb x done rest (k+1) (x.rl 9).length seen puts∧QTo w (z.own B) w' (z'.own B):=by
 refine (h.pa.a.sync (by omega)).mono ?_
 rintro e w' ⟨rfl,x',hA,hq,b1,b2⟩
 have hi:x'.i0=z.x.i0:=by
  have h1:=hA.i0
  have h2:=h.pa.a.i0
  dsimp only at h1
  rw [h1,h2]
 have hall:=synced_all hA (by show x'.m.synced=_;rw [b1];exact b2)
 have hrs:RS { z with x:=x' }=RS z:=by unfold RS;dsimp only;rw [b1,hi]
 rw [hrs] at hall
 have hJ:PutJ w0 w' B { z with x:=x' } rb x done rest k (x.rl 9).length seen puts:=⟨h.pa.enq hA hq,h.c,h.l.sync b1 hi b2 hall,h.hd,h.G⟩
 exact ⟨rfl,_,hJ.more (Nat.le_succ _),hq⟩
structure StpM (w0 w:World) (B:EnB) (z z':EnG) (rb:Nat) (x:PuG) (done rest done' rest':List RcM) (k sy seen puts:Nat) (y:RcM):Prop where
 pa:PuA w0 w B z' rb x done' rest' k k
 c:PuC x rb z'.hd seen puts
 hs:seen<(x.rl 9).length
 hd9:(x.rl 10).length=(x.rl 9).length∧(x.rl 9).length≤1000∧(x.rl 11).length≤1000∧puts≤1000000
 hd:z'.hd≤255+k
 G:x.G.length≤k
 fin:∀ x' puts',Looked z y x x' puts puts'→PuL z' done' rest' x' (seen+1) sy puts'
 look:∀ x' puts',x'.G=x.G→x'.rl 9=x.rl 9→x'.rl 10=x.rl 10→(if (getK x.G (seen:Int)).getD false=true then x'.rl 11=x.rl 11∧puts'=puts else if (x.rl 10).getD seen 0≤(z'.hd:Int) then x'.rl 11=x.rl 11 ++ [(x.rl 9).getD seen 0]∧puts'=puts else x'.rl 11=x.rl 11∧puts'=puts+1)→Looked z y x x' puts puts'
def PutE (w0 w:World) (B:EnB) (rb k sy:Nat):Prop:=∃ z x done rest seen puts,PutJ w0 w B z rb x done rest k sy seen puts
def cloV (rb:Nat):Array Value:=#[.pointer (some ⟨rb+5,0,none⟩),.pointer (some ⟨rb+6,0,none⟩),.pointer (some ⟨rb+3,0,none⟩),.pointer (some ⟨rb+1,0,none⟩),.pointer (some ⟨rb+8,0,none⟩),.pointer (some ⟨rb+2,0,none⟩),.pointer (some ⟨rb+7,0,none⟩)]
theorem StpM.clo {done' rest':List RcM} {y:RcM} (h:StpM w0 w B z z' rb x done rest done' rest' k sy seen puts y) :
 Calls Tryz.prog 9 (cloV rb) w fun e w'=>e = .returned (.tuple #[])∧w.heap.size≤w'.heap.size∧∃ z x seen puts,PutJ w0 w' B z rb x done' rest' k sy seen puts:=by
 refine (pclo_any h.pa h.c h.hs h.hd9.1 h.hd9.2.1 h.hd9.2.2.1 h.hd9.2.2.2).mono ?_
 rintro e w' ⟨rfl,hN,x',puts',hA,hC,g1,g2,g3,g4⟩
 exact ⟨rfl,hN,z',x',seen+1,puts',hA,hC,h.fin x' puts' (h.look x' puts' g1 g2 g3 g4),h.hd,by rw [g1];exact h.G⟩
theorem PutJ.step (h:PutJ w0 w B z rb x done rest k sy seen puts) (hk:k≤100) :
 Calls Tryz.prog 14 #[.pointer (some ⟨B.eb,0,none⟩)] w fun e w'=>w.heap.size≤w'.heap.size∧(
  (e = .returned (.tuple #[.bool false,.int .i64 0])∧sy=seen∧∃ z' d r,PutJ w0 w' B z' rb x d r (k+1) sy seen puts) ∨
  (e = .returned (.tuple #[.bool true,.int .i64 0])∧seen<sy∧∃ z' d r y,StpM w0 w' B z z' rb x done rest d r (k+1) sy seen puts y)):=by
 have hln:=h.lens
 refine (enext_any h.pa.a (by omega) (by omega)).mono ?_
 rintro e w' (⟨d,r,z',h1,h2,h3,rfl,h4,h5,h6,h7,h8⟩|⟨d,y,l,z',h1,h2,h3,h3',rfl,h4,h5,h6,h7,h8⟩)
 ·obtain ⟨hL,he⟩:=h.l.none_ h1 h2 h3 h4.sorted h6 h7 h8
  have hJ:PutJ w0 w' B z' rb x (done ++ d) r k sy seen puts:=⟨h.pa.enq h4 h5,by rw [h6.hd];exact h.c,hL,by rw [h6.hd];exact h.hd,h.G⟩
  exact ⟨h5.chg.size,.inl ⟨rfl,he,z',_,r,hJ.more (Nat.le_succ _)⟩⟩
 ·have hsr:schd rest=[] ++ y :: schd l:=by
   rw [h1,schd_app,h2,show y :: l=[y] ++ l from rfl,schd_app,schd_one,if_pos h3];rfl
  obtain ⟨e1,e2,e3,e4⟩:=h.l.at_ hsr
  rw [List.length_nil,Nat.add_zero] at e1 e2 e3 e4
  have hym:y∈RS z:=by rw [h.pa.a.rs,h1];simp
  have hdu:=(h.pa.a.recs y hym).2.2.2.2.1
  obtain ⟨_,hlt⟩:=h.l.step (x':={ x with rl:=updN x.rl 11 (x.rl 11 ++ ltR z.M z.hd y)}) (puts':=puts+(wsR z.M z.hd y).length) h1 h2 h3 h3' h6 h7 h8 ⟨rfl,rfl,rfl,rfl,rfl⟩
  have hpa:=(h.pa.enq h4 h5).more (Nat.le_succ _) (Nat.le_succ _)
  refine ⟨h5.chg.size,.inr ⟨rfl,hlt,z',_,l,y,⟨hpa,by rw [h6.hd];exact h.c,e4,⟨hln.2.1,by omega,by omega,by omega⟩,by rw [h6.hd];have:=h.hd;omega,by have:=h.G;omega,fun x' puts' hx=>(h.l.step h1 h2 h3 h3' h6 h7 h8 hx).1,fun x' puts' g1 g2 g3 g4=>looked_of (h.l.st seen y e1) e2 e3 hdu h6.hd g1 g2 g3 g4⟩⟩⟩
structure AllM (w0 w:World) (B:EnB) (z z':EnG) (rb:Nat) (x0 x:PuG) (done rest d r:List RcM) (k sy seen0 seen puts0 puts m:Nat):Prop where
 pa:PuA w0 w B z' rb x (done ++ d) r k k
 c:PuC x rb z'.hd seen puts
 al:AllL z d x0 x m puts0 puts
 sn:seen=seen0+m
 old:PuL z done rest x0 seen0 sy puts0
 sq:sy=seen0+(schd d).length
 rt:rest=d ++ r
 zhd:z'.hd=z.hd
 dues:∀ y∈schd d,0≤y.m.due
 hd:z'.hd≤255+k
 G:x0.G.length≤k
 lens:(x0.rl 10).length=(x0.rl 9).length∧(x0.rl 9).length≤100∧(x0.rl 11).length≤100∧puts0≤100∧(schd d).length≤100
 fin:∀ x' puts',AllL z d x0 x' (schd d).length puts0 puts'→PuL z' (done ++ d) r x' (seen0+(schd d).length) sy puts'
theorem AllM.clo {x0:PuG} {d r:List RcM} {seen0 puts0 m:Nat} (h:AllM w0 w B z z' rb x0 x done rest d r k sy seen0 seen puts0 puts m) (hm:m<(schd d).length) :
 Calls Tryz.prog 9 (cloV rb) w fun e w'=>e = .returned (.tuple #[])∧w.heap.size≤w'.heap.size∧∃ x' seen' puts',AllM w0 w' B z z' rb x0 x' done rest d r k sy seen0 seen' puts0 puts' (m+1):=by
 obtain ⟨y,hy⟩:∃ y,(schd d)[m]? = some y:=⟨_,List.getElem?_eq_getElem hm⟩
 have hsr:schd rest=(schd d).take m ++ y :: ((schd d).drop (m+1) ++ schd r):=by
  obtain ⟨hl,he⟩:=List.getElem?_eq_some_iff.1 hy
  rw [h.rt,schd_app]
  conv=>lhs;rw [←List.take_append_drop m (schd d),List.drop_eq_getElem_cons hl,he]
  simp
 obtain ⟨e1,e2,e3,e4⟩:=h.old.at_ hsr
 rw [List.length_take,Nat.min_eq_left (Nat.le_of_lt hm),←h.sn] at e1 e2 e3 e4
 rw [←h.al.I] at e2 e4
 rw [←h.al.D] at e3
 obtain ⟨l1,l2,l3,l4,l5⟩:=h.lens
 have hll:(x.rl 11).length≤100+m∧puts≤100+m:=by
  have h1:=congrArg List.length h.al.Lt
  have h2:=h.al.pu
  have h3:=wl_count z.M z.hd ((schd d).take m)
  have h4:(((schd d).take m).filter fun r=>decide (stP z.M (r.id:Int)=1)).length≤m:=by
   refine Nat.le_trans (List.length_filter_le _ _) ?_
   rw [List.length_take]
   omega
  rw [List.length_append] at h1
  omega
 refine (pclo_any h.pa h.c e4 (by rw [h.al.D,h.al.I];exact l1) (by rw [h.al.I];omega) (by omega) (by omega)).mono ?_
 rintro e w' ⟨rfl,hN,x',puts',hA,hC,g1,g2,g3,g4⟩
 have hst:stP z.M (y.id:Int)=1↔(getK x.G (seen:Int)).getD false=false:=by
  rw [h.al.G]
  exact h.old.st seen y e1
 have hlk:Looked z y x x' puts puts':=looked_of hst e2 e3 (h.dues y (List.mem_of_getElem? hy)) h.zhd g1 g2 g3 g4
 exact ⟨rfl,hN,x',seen+1,puts',hA,hC,h.al.next hy hlk,by rw [h.sn];omega,h.old,h.sq,h.rt,h.zhd,h.dues,h.hd,h.G,h.lens,h.fin⟩
theorem AllM.done_ {x0:PuG} {d r:List RcM} {seen0 puts0 m:Nat} (h:AllM w0 w B z z' rb x0 x done rest d r k sy seen0 seen puts0 puts m) (hm:m=(schd d).length):PutJ w0 w B z' rb x (done ++ d) r k sy seen puts:=by
 subst hm
 refine ⟨h.pa,h.c,?_,h.hd,by rw [h.al.G];exact h.G⟩
 rw [h.sn]
 exact h.fin x puts h.al
theorem PutJ.all_ (h:PutJ w0 w B z rb x done rest k sy seen puts) (hk:k≤90) :
 Calls Tryz.prog 15 #[.pointer (some ⟨B.eb,0,none⟩)] w fun e w'=>e = .returned (.tuple #[.int .i64 ((sy:Int) - (seen:Int)),.int .i64 0])∧w.heap.size≤w'.heap.size∧∃ z' d r,AllM w0 w' B z z' rb x x done rest d r (k+1) sy seen seen puts puts 0:=by
 have hln:=h.lens
 refine (eall_any h.pa.a (by omega) (by omega)).mono ?_
 rintro e w' ⟨d,r,z',c1,c2,rfl,c3,hA,hq,c4,c5,c6⟩
 obtain ⟨he,hf⟩:=h.l.all_ c1 c2 hA.sorted c3 c4 c5 c6
 have hdl:=h.pa.a.dl
 have hsd:(schd d).length≤100:=by
  have h1:=schd_len d
  have h2:=congrArg List.length c1
  rw [List.length_append] at h2
  omega
 refine ⟨by rw [show (sy:Int) - (seen:Int)=((schd d).length:Int) by omega],hq.chg.size,z',d,r,⟨(h.pa.enq hA hq).more (Nat.le_succ _) (Nat.le_succ _),by rw [c4.hd];exact h.c,AllL.start z d x puts,rfl,h.l,he,c1,c4.hd,fun y hy=>?_,by rw [c4.hd];have:=h.hd;omega,by have:=h.G;omega,⟨hln.2.1,by omega,by omega,by omega,hsd⟩,hf⟩⟩
 have hym:y∈RS z:=by rw [h.pa.a.rs,c1];exact List.mem_append_right _ (List.mem_append_left _ (List.mem_filter.1 hy).1)
 exact (h.pa.a.recs y hym).2.2.2.2.1
def tickX (x:PuG) (hd puts:Nat):PuG:={ x with b:=updN (updN x.b 1 (.int .i64 (hd:Int))) 7 (.int .i64 (puts:Int))}
theorem PutJ.tick (h:PutJ w0 w B z rb x done rest k sy seen puts) (hk:k≤90) :
 Calls Tryz.prog 16 #[.pointer (some ⟨B.lb,0,none⟩),.int .i64 ((z.hd+1:Nat):Int)] w fun e w'=>∃ a n cap,n≤puts∧e = .returned (.tuple #[.slice a n cap,.bool true,.int .i64 0])∧∃ z',PuA w0 w' B z' rb x done rest (k+1) (k+1)∧QTo w (z.own B) w' (z'.own B) ∧
  ∀ W,PuA w0 W B z' rb (tickX x (z.hd+1) (puts - n)) done rest (k+1) (k+1)→PutJ w0 W B z' rb (tickX x (z.hd+1) (puts - n)) done rest (k+1) sy seen (puts - n):=by
 have hhd:=h.hd
 refine (h.pa.a.next_ (by omega) (by omega) (by omega)).mono ?_
 rintro e w' ⟨a,n,cap,z',rfl,hA,hq,b1,b2,b3,b4,b5⟩
 have hpu:=h.l.pu
 refine ⟨a,n,cap,by omega,rfl,z',(h.pa.enq hA hq).more (Nat.le_succ _) (Nat.le_refl _),hq,fun W hW=>⟨hW,?_,h.l.tick b1 b2 b4 b5 rfl rfl (by omega),by rw [b3];omega,by have:=h.G;show x.G.length≤k+1;omega⟩⟩
 rw [b3]
 exact ⟨rfl,h.c.b2,h.c.b3,h.c.b5,h.c.b6,rfl,h.c.b8⟩
theorem PutJ.cancel (h:PutJ w0 w B z rb x done rest k sy seen puts) (hk:k≤100) {n:Nat} {a:Int} (hn:(x.rl 9)[n]? = some a) (ha:(Lit.int .i64 a).wf=true) :
 Calls Tryz.prog 17 #[.pointer (some ⟨B.sb,0,none⟩),.int .i64 549755813888,.agg #[.int .i64 4,.int .i64 0,.int .i64 0,.int .i64 0,.int .i64 a,.int .i64 0,.string ⟨#[]⟩,.string ⟨#[]⟩,.string ⟨#[]⟩,.slice none 0 0]] w fun e w'=>∃ b,e = .returned (.bool b)∧∃ z',PuA w0 w' B z' rb x done rest k k∧QTo w (z.own B) w' (z'.own B) ∧
  ∀ W,PuA w0 W B z' rb { x with G:=dropK x.G (n:Int) ++ [((n:Int),true)]} done rest k k→PutJ w0 W B z' rb { x with G:=dropK x.G (n:Int) ++ [((n:Int),true)]} done rest (k+1) sy seen puts:=by
 obtain ⟨hL,hlen⟩:=h.l.cancel h.pa.a.i.pe.good (recsI_sorted h.pa.a.i.tp.la') (fun r hr=>by have:=(h.pa.a.recs r hr).1;omega) (due:=0) hn
 have hml:=h.pa.a.ml
 have hN:=h.pa.a.note (by omega) 549755813888 ⟨4,0,0,0,a,0,⟨#[]⟩,⟨#[]⟩,⟨#[]⟩,[]⟩ (.slice none 0 0) rfl (by decide) ha (by dsimp only;rw [hlen];exact hml)
 refine hN.mono ?_
 rintro e w' ⟨b,rfl,hA,hq⟩
 refine ⟨b,rfl,_,h.pa.enq hA hq,hq,fun W hW=>⟨hW.more (Nat.le_succ _) (Nat.le_succ _),⟨h.c.b1,h.c.b2,h.c.b3,h.c.b5,h.c.b6,h.c.b7,h.c.b8⟩,hL,?_,?_⟩⟩
 ·show z.hd≤255+(k+1)
  have:=h.hd
  omega
 ·have h1:(dropK x.G (n:Int)).length≤x.G.length:=List.length_filter_le _ _
  have:=h.G
  show (dropK x.G (n:Int) ++ [((n:Int),true)]).length≤k+1
  rw [List.length_append]
  simp only [List.length_cons,List.length_nil]
  omega
def startX (rb hd:Nat):PuG:=⟨fun i=>match i with|1=>.int .i64 (hd:Int)|5=>.map (some (rb+4))|6=>.int .i64 0|7=>.int .i64 0|_=>.slice none 0 0,fun _=>.slice none 0 0,fun _=>[],[]⟩
theorem pu_start {w0 w3 W0 W1 W2 W3 W4 W5 W6 W7 W8:World} {B:EnB} {z:EnG} {hd:Nat} (h:EnA w0 w3 B z [] [] 0 0) (h1:z.x.l=[]) (h2:z.x.m.synced=0) (h3:z.M=[]) (h4:z.hd=hd) (h5:z.ws=[]) (h6:z.L=[]) (h7:hd≤255)
 (e0:W0=w3.alloc (.cells (rigC B) 29)) (e1:W1=W0.alloc (.cells #[.int .i64 (hd:Int)] 3)) (e2:W2=W1.alloc (.cells #[.slice none 0 0] 32)) (e3:W3=W2.alloc (.cells #[.slice none 0 0] 32)) (e4:W4=W3.alloc (.map #[] 0))
 (e5:W5=W4.alloc (.cells #[.map (some (w3.heap.size+4))] 33)) (e6:W6=W5.alloc (.cells #[.int .i64 0] 3)) (e7:W7=W6.alloc (.cells #[.int .i64 0] 3)) (e8:W8=W7.alloc (.cells #[.slice none 0 0] 32)) :
 PutJ w0 W8 B z w3.heap.size (startX w3.heap.size hd) [] [] 0 0 0 0:=by
 have s0:W0.heap.size=w3.heap.size+1:=by rw [e0];simp
 have s1:W1.heap.size=w3.heap.size+2:=by rw [e1];simp [s0]
 have s2:W2.heap.size=w3.heap.size+3:=by rw [e2];simp [s1]
 have s3:W3.heap.size=w3.heap.size+4:=by rw [e3];simp [s2]
 have s4:W4.heap.size=w3.heap.size+5:=by rw [e4];simp [s3]
 have s5:W5.heap.size=w3.heap.size+6:=by rw [e5];simp [s4]
 have s6:W6.heap.size=w3.heap.size+7:=by rw [e6];simp [s5]
 have s7:W7.heap.size=w3.heap.size+8:=by rw [e7];simp [s6]
 have s8:W8.heap.size=w3.heap.size+9:=by rw [e8];simp [s7]
 have c0:Chg (fun _=>False) w3 W0:=e0▸Chg.alloc _ (Chg.refl _ _) _
 have c1:Chg (fun _=>False) W0 W1:=e1▸Chg.alloc _ (Chg.refl _ _) _
 have c2:Chg (fun _=>False) W1 W2:=e2▸Chg.alloc _ (Chg.refl _ _) _
 have c3:Chg (fun _=>False) W2 W3:=e3▸Chg.alloc _ (Chg.refl _ _) _
 have c4:Chg (fun _=>False) W3 W4:=e4▸Chg.alloc _ (Chg.refl _ _) _
 have c5:Chg (fun _=>False) W4 W5:=e5▸Chg.alloc _ (Chg.refl _ _) _
 have c6:Chg (fun _=>False) W5 W6:=e6▸Chg.alloc _ (Chg.refl _ _) _
 have c7:Chg (fun _=>False) W6 W7:=e7▸Chg.alloc _ (Chg.refl _ _) _
 have c8:Chg (fun _=>False) W7 W8:=e8▸Chg.alloc _ (Chg.refl _ _) _
 have t7:=c8
 have t6:=c7.trans t7 (fun _ _ x=>x)
 have t5:=c6.trans t6 (fun _ _ x=>x)
 have t4:=c5.trans t5 (fun _ _ x=>x)
 have t3:=c4.trans t4 (fun _ _ x=>x)
 have t2:=c3.trans t3 (fun _ _ x=>x)
 have t1:=c2.trans t2 (fun _ _ x=>x)
 have t0:=c1.trans t1 (fun _ _ x=>x)
 have tw:=c0.trans t0 (fun _ _ x=>x)
 have b0:W8.heap[w3.heap.size]? = some (.cells (rigC B) 29 (0,0)):=t0.heap (e0▸heap_alloc_new w3 _) (fun x=>x)
 have b1:W8.heap[w3.heap.size+1]? = some (.cells #[.int .i64 (hd:Int)] 3 (0,0)):=t1.heap (s0▸e1▸heap_alloc_new W0 _) (fun x=>x)
 have b2:W8.heap[w3.heap.size+2]? = some (.cells #[.slice none 0 0] 32 (0,0)):=t2.heap (s1▸e2▸heap_alloc_new W1 _) (fun x=>x)
 have b3:W8.heap[w3.heap.size+3]? = some (.cells #[.slice none 0 0] 32 (0,0)):=t3.heap (s2▸e3▸heap_alloc_new W2 _) (fun x=>x)
 have b5:W8.heap[w3.heap.size+5]? = some (.cells #[.map (some (w3.heap.size+4))] 33 (0,0)):=t5.heap (s4▸e5▸heap_alloc_new W4 _) (fun x=>x)
 have b6:W8.heap[w3.heap.size+6]? = some (.cells #[.int .i64 0] 3 (0,0)):=t6.heap (s5▸e6▸heap_alloc_new W5 _) (fun x=>x)
 have b7:W8.heap[w3.heap.size+7]? = some (.cells #[.int .i64 0] 3 (0,0)):=t7.heap (s6▸e7▸heap_alloc_new W6 _) (fun x=>x)
 have b8:W8.heap[w3.heap.size+8]? = some (.cells #[.slice none 0 0] 32 (0,0)):=s7▸e8▸heap_alloc_new W7 _
 have m4:MapK nK boolEl W8 (w3.heap.size+4) []:=by
  have:=MapK.made (P:=Tryz.prog) (K:=nK) (E:=boolEl) W3
  rw [←e4,s3] at this
  exact this.heap (t4.block _ (by omega) (fun x=>x))
 have hlow:=h.chg.size
 have hown:∀ q,z.own B q→w0.heap.size≤q∧q<w3.heap.size:=fun q hq=>⟨h.i.lowAll q hq,h.i.lt q hq⟩
 have key:∀ i q,PuG.part B z w3.heap.size (startX w3.heap.size hd) i q→(i≤8∧q=w3.heap.size+i)∨(i=12∧z.own B q):=fun i q hi=>by
  rcases hi with a|⟨_,a⟩|a
  ·exact .inl a
  ·cases a
  ·exact .inr a
 have hRS:RS z=[]:=by unfold RS;rw [h1];rfl
 refine ⟨⟨h.new tw,⟨b0,fun i hi=>?_,m4,fun i _ _=>GRow.nil _,fun i q hi=>?_,fun i q hi=>?_,fun i j hij q hi hj=>?_⟩⟩,⟨?_,rfl,rfl,rfl,rfl,rfl,rfl⟩,⟨?_,?_,?_,?_,?_,rfl,?_,?_,fun p hp=>(by cases hp),?_,?_⟩,by omega,Nat.le_refl _⟩
 ·simp only [isBox,Bool.or_eq_true,beq_iff_eq] at hi
  rcases hi with (((((rfl|rfl)|rfl)|rfl)|rfl)|rfl)|rfl
  ·exact b1
  ·exact b2
  ·exact b3
  ·exact b5
  ·exact b6
  ·exact b7
  ·exact b8
 ·rcases key i q hi with ⟨_,a⟩|⟨_,a⟩
  ·omega
  ·exact (hown q a).1
 ·rcases key i q hi with ⟨_,a⟩|⟨_,a⟩
  ·omega
  ·have:=(hown q a).2;omega
 ·rcases key i q hi with ⟨_,a⟩|⟨_,a⟩<;>rcases key j q hj with ⟨_,b⟩|⟨_,b⟩
  ·omega
  ·have:=(hown q b).2;omega
  ·have:=(hown q a).2;omega
  ·omega
 ·rw [h4];rfl
 ·rw [hRS];rfl
 ·rw [hRS];rfl
 ·rw [hRS];rfl
 ·rw [h6];rfl
 ·rw [h5];rfl
 ·rfl
 ·rw [h2];omega
 ·rw [hRS]
  intro i r hr
  have hr:([]:List RcM)[i]? = some r:=hr
  simp at hr
 ·rw [hRS,h3]
  exact List.Perm.refl _
def BoxO (w:World) (b:Nat) (cs:Array Value):Prop:=w.heap[b]? = some (.cells cs 38 (0,0))
theorem BoxO.cell {w:World} {b:Nat} {cs:Array Value} (h:BoxO w b cs) (i:Nat):w.cell? ⟨b,i,none⟩=cs[i]?:=by
 unfold BoxO at h
 unfold World.cell?
 simp only [h]
 simp
def BS (v:Value) (a:Int) (B0:Nat) (w:World):Prop:=∀ q,v = .slice (some ⟨q,0,none⟩) 1 1→B0≤q→w.cell? ⟨q,0,none⟩=some (.int .i64 a)∧q<w.heap.size
theorem BS.chg {S:Nat→Prop} {v:Value} {a:Int} {B0:Nat} {w w':World} (h:BS v a B0 w) (hc:Chg S w w') (hS:∀ q,B0≤q→¬ S q):BS v a B0 w':=fun q e hq=>⟨hc.cell (h q e hq).1 (hS q hq),Nat.lt_of_lt_of_le (h q e hq).2 hc.size⟩
theorem BS.of_ok {v:Value} {a:Int} {w:World} (h:∀ q n c,v = .slice (some ⟨q,0,none⟩) n c→q<w.heap.size):BS v a w.heap.size w:=fun q e hq=>by have:=h q 1 1 e;omega
theorem BS.made (a:Int) (B0:Nat) (w:World):BS (.slice (some ⟨w.heap.size,0,none⟩) 1 1) a B0 (w.alloc (.cells #[.int .i64 a] 3)):=fun q e _=>by
 cases e
 exact ⟨by rw [Lib.cell_of_heap (heap_alloc_new _ _)];rfl,(Array.getElem?_eq_some_iff.1 (heap_alloc_new w _)).1⟩
structure TwoC (rb:Nat) (x:PuG) (BX B0:Nat):Prop where
 r9:∀ q,(x.rv 9).ownBlock=some q→q<B0∧q≠BX
 r10:∀ q,(x.rv 10).ownBlock=some q→q<B0∧q≠BX
 st:∀ i,i≤8→rb+i<B0∧rb+i≠BX
 bx:BX<B0
 l9:(x.rl 9).length≤1000
 l10:(x.rl 10).length≤1000
def SlV (v:Value):Prop:=∃ a n c,v = .slice a n c
def TwoP (w0:World) (B:EnB) (z:EnG) (rb:Nat) (x:PuG) (done rest:List RcM) (k:Nat) (a d:Int) (p:Nat) (u92 u98:Value) (w:World):Prop:=
 match p with
 | 0=>PuA w0 w B z rb x done rest k k
 | 1=>PuA w0 w B z rb { x with rv:=updN x.rv 9 u92,rl:=updN x.rl 9 (x.rl 9 ++ [a])} done rest k k∧SlV u92
 | 2=>PuA w0 w B z rb { x with rv:=updN (updN x.rv 9 u92) 10 u98,rl:=updN (updN x.rl 9 (x.rl 9 ++ [a])) 10 (x.rl 10 ++ [d])} done rest k k∧SlV u92∧SlV u98
 | 3=>PuA w0 w B z rb { x with b:=updN x.b 2 u92,rv:=updN (updN x.rv 9 u92) 10 u98,rl:=updN (updN x.rl 9 (x.rl 9 ++ [a])) 10 (x.rl 10 ++ [d])} done rest k k∧SlV u92∧SlV u98
 | _+4=>PuA w0 w B z rb (twoX x u92 u98 a d) done rest k k
structure TwoG (w0:World) (B:EnB) (z:EnG) (rb:Nat) (x:PuG) (done rest:List RcM) (k:Nat) (a d:Int) (BX B0:Nat) (cs:Array Value) (p:Nat) (u91 u92 u97 u98:Value) (w:World):Prop where
 m:TwoP w0 B z rb x done rest k a d p u92 u98 w
 b:BoxO w BX cs
 s91:BS u91 a B0 w
 s97:BS u97 d B0 w
 sz:B0≤w.heap.size
variable {w0 w w':World} {B:EnB} {z:EnG} {rb:Nat} {x:PuG} {done rest:List RcM} {k:Nat} {a d:Int} {BX B0:Nat} {cs:Array Value} {p:Nat} {u91 u92 u97 u98:Value}
theorem TwoP.new (h:TwoP w0 B z rb x done rest k a d p u92 u98 w) (hc:Chg (fun _=>False) w w'):TwoP w0 B z rb x done rest k a d p u92 u98 w':=by
 match p,h with
 | 0,h=>exact PuA.new h hc
 | 1,h=>exact ⟨h.1.new hc,h.2⟩
 | 2,h=>exact ⟨h.1.new hc,h.2⟩
 | 3,h=>exact ⟨h.1.new hc,h.2⟩
 | p+4,h=>exact PuA.new h hc
theorem TwoG.new (h:TwoG w0 B z rb x done rest k a d BX B0 cs p u91 u92 u97 u98 w) (hc:Chg (fun _=>False) w w'):TwoG w0 B z rb x done rest k a d BX B0 cs p u91 u92 u97 u98 w':=
 ⟨h.m.new hc,hc.heap h.b (fun x=>x),h.s91.chg hc (fun _ _ x=>x),h.s97.chg hc (fun _ _ x=>x),Nat.le_trans h.sz hc.size⟩
theorem TwoG.b91 (h:TwoG w0 B z rb x done rest k a d BX B0 cs p u91 u92 u97 u98 w):TwoG w0 B z rb x done rest k a d BX B0 cs p (.slice (some ⟨w.heap.size,0,none⟩) 1 1) u92 u97 u98 (w.alloc (.cells #[.int .i64 a] 3)):=
 { h.new (Chg.alloc _ (Chg.refl _ _) _) with s91:=BS.made a B0 w }
theorem TwoG.b97 (h:TwoG w0 B z rb x done rest k a d BX B0 cs p u91 u92 u97 u98 w):TwoG w0 B z rb x done rest k a d BX B0 cs p u91 u92 (.slice (some ⟨w.heap.size,0,none⟩) 1 1) u98 (w.alloc (.cells #[.int .i64 d] 3)):=
 { h.new (Chg.alloc _ (Chg.refl _ _) _) with s97:=BS.made d B0 w }
theorem TwoG.app1 (hC:TwoC rb x BX B0) (h:TwoG w0 B z rb x done rest k a d BX B0 cs 0 u91 u92 u97 u98 w) {q:Nat} (hq:u91 = .slice (some ⟨q,0,none⟩) 1 1) (hb:B0≤q) (ty:TypeId) :
 ∃ v' w',(Builtin.append_ #[32,32] ty #[x.rv 9,.slice (some ⟨q,0,none⟩) 1 1]).run Tryz.prog w = .ok v' w'∧TwoG w0 B z rb x done rest k a d BX B0 cs 1 u91 v' u97 u98 w':=by
 have hm:PuA w0 w B z rb x done rest k k:=h.m
 obtain ⟨v',w',hrun,h1,h2,va,vc,hv⟩:=hm.app 9 (by decide) (by decide) hC.l9 a (h.s91 q hq hb).1 (c:=1) ty
 have hS:∀ q,B0≤q→¬ (x.rv 9).ownBlock=some q:=fun q hq e=>by have:=(hC.r9 q e).1;omega
 exact ⟨v',w',hrun,⟨h1,va,_,vc,hv⟩,h2.heap h.b (fun e=>(hC.r9 BX e).2 rfl),h.s91.chg h2 hS,h.s97.chg h2 hS,Nat.le_trans h.sz h2.size⟩
theorem TwoG.app2 (hC:TwoC rb x BX B0) (h:TwoG w0 B z rb x done rest k a d BX B0 cs 1 u91 u92 u97 u98 w) {q:Nat} (hq:u97 = .slice (some ⟨q,0,none⟩) 1 1) (hb:B0≤q) (ty:TypeId) :
 ∃ v' w',(Builtin.append_ #[32,32] ty #[x.rv 10,.slice (some ⟨q,0,none⟩) 1 1]).run Tryz.prog w = .ok v' w'∧TwoG w0 B z rb x done rest k a d BX B0 cs 2 u91 u92 u97 v' w':=by
 obtain ⟨hm,hv92⟩:=h.m
 obtain ⟨v',w',hrun,h1,h2,va,vc,hv⟩:=hm.app 10 (by decide) (by decide) hC.l10 d (h.s97 q hq hb).1 (c:=1) ty
 have hS:∀ q,B0≤q→¬ (x.rv 10).ownBlock=some q:=fun q hq e=>by have:=(hC.r10 q e).1;omega
 exact ⟨v',w',hrun,⟨h1,hv92,va,_,vc,hv⟩,h2.heap h.b (fun e=>(hC.r10 BX e).2 rfl),h.s91.chg h2 hS,h.s97.chg h2 hS,Nat.le_trans h.sz h2.size⟩
theorem TwoG.st1 (hC:TwoC rb x BX B0) (h:TwoG w0 B z rb x done rest k a d BX B0 cs 2 u91 u92 u97 u98 w):TwoG w0 B z rb x done rest k a d BX B0 cs 3 u91 u92 u97 u98 (w.setCell ⟨rb+2,0,none⟩ u92):=by
 obtain ⟨hm,hv⟩:=h.m
 obtain ⟨c1,c2⟩:=hC.st 2 (by decide)
 have hch:Chg (fun q=>q=rb+2) w (w.setCell ⟨rb+2,0,none⟩ u92):=Chg.setCell (S:=fun q=>q=rb+2) (p:=⟨rb+2,0,none⟩) (Chg.refl _ _) (fun _=>rfl) _
 exact ⟨⟨hm.set 2 rfl u92,hv⟩,hch.heap h.b (fun e=>c2 e.symm),h.s91.chg hch (fun q hq e=>by omega),h.s97.chg hch (fun q hq e=>by omega),Nat.le_trans h.sz hch.size⟩
theorem TwoG.st2 (hC:TwoC rb x BX B0) (h:TwoG w0 B z rb x done rest k a d BX B0 cs 3 u91 u92 u97 u98 w):TwoG w0 B z rb x done rest k a d BX B0 cs 4 u91 u92 u97 u98 (w.setCell ⟨rb+3,0,none⟩ u98):=by
 obtain ⟨hm,hv⟩:=h.m
 obtain ⟨c1,c2⟩:=hC.st 3 (by decide)
 have hch:Chg (fun q=>q=rb+3) w (w.setCell ⟨rb+3,0,none⟩ u98):=Chg.setCell (S:=fun q=>q=rb+3) (p:=⟨rb+3,0,none⟩) (Chg.refl _ _) (fun _=>rfl) _
 exact ⟨hm.set 3 rfl u98,hch.heap h.b (fun e=>c2 e.symm),h.s91.chg hch (fun q hq e=>by omega),h.s97.chg hch (fun q hq e=>by omega),Nat.le_trans h.sz hch.size⟩
theorem TwoG.box2 (h:TwoG w0 B z rb x done rest k a d BX B0 cs 0 u91 u92 u97 u98 w) (hb:x.b 2=x.rv 9):w.cell? ⟨rb+2,0,none⟩=some (x.rv 9):=by
 have hm:PuA w0 w B z rb x done rest k k:=h.m
 rw [(hm.p.cell 2 rfl).1,hb]
theorem TwoG.box3 (h:TwoG w0 B z rb x done rest k a d BX B0 cs p u91 u92 u97 u98 w) (hp:p≤1) (hb:x.b 3=x.rv 10):w.cell? ⟨rb+3,0,none⟩=some (x.rv 10):=by
 match p,h with
 | 0,h=>
  have hm:PuA w0 w B z rb x done rest k k:=h.m
  rw [(hm.p.cell 3 rfl).1,hb]
 | 1,h=>
  have hm:=h.m.1
  rw [(hm.p.cell 3 rfl).1]
  exact congrArg some hb
 | p+2,h=>omega
theorem TwoG.fre (h:TwoG w0 B z rb x done rest k a d BX B0 cs p u91 u92 u97 u98 w) (hp:2≤p) (hp2:p≤3) (i:Nat) (hi:isBox i=true):(∃ v,w.cell? ⟨rb+i,0,none⟩=some v)∧w.frozen? ⟨rb+i,0,none⟩=false:=by
 match p,h with
 | 0,h=>omega
 | 1,h=>omega
 | 2,h=>exact ⟨⟨_,(h.m.1.p.cell i hi).1⟩,(h.m.1.p.cell i hi).2⟩
 | 3,h=>exact ⟨⟨_,(h.m.1.p.cell i hi).1⟩,(h.m.1.p.cell i hi).2⟩
 | p+4,h=>omega
theorem TwoG.start {sy seen puts:Nat} {M:MsgM} {bs:List UInt8} {z0:EnG} {k0:Nat} (h:MidJ w0 w B z0 z rb x done rest k0 sy seen puts M bs) (hb:BoxO w BX cs) (hbx:∀ i,¬ x.part B z rb i BX) (hs1:∀ q n c,u91 = .slice (some ⟨q,0,none⟩) n c→q<w.heap.size) (hs2:∀ q n c,u97 = .slice (some ⟨q,0,none⟩) n c→q<w.heap.size) (hk:k0≤100) :
 TwoC rb x BX w.heap.size∧TwoG w0 B z rb x done (rest ++ [⟨idL z0.x.l bs,bs.length,M⟩]) (k0+1) ((idL z0.x.l bs:Nat):Int) M.due BX w.heap.size cs 0 u91 u92 u97 u98 w:=by
 have hl:=h.len
 refine ⟨⟨fun q hq=>⟨h.pa.p.lt 9 q (part_row (by decide) (by decide) hq),fun e=>hbx 9 (e▸part_row (by decide) (by decide) hq)⟩,fun q hq=>⟨h.pa.p.lt 10 q (part_row (by decide) (by decide) hq),fun e=>hbx 10 (e▸part_row (by decide) (by decide) hq)⟩,fun i hi=>⟨h.pa.p.lt i _ (part_blk hi),fun e=>hbx i (e▸part_blk hi)⟩,(Array.getElem?_eq_some_iff.1 hb).1,by omega,by omega⟩,h.pa,hb,BS.of_ok hs1,BS.of_ok hs2,Nat.le_refl _⟩
end Go.Proofs.YtldkapjeheiiaaaGreatDoor
