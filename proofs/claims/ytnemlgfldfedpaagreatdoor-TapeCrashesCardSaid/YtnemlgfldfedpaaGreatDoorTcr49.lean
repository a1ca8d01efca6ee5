/- A part. -/
import Derived.Test.YtnemlgfldfedpaaGreatDoorTcr47
import Derived.Test.YtnemlgfldfedpaaGreatDoorTcr48
set_option linter.unusedVariables false
set_option linter.unusedSimpArgs false
namespace Go.Proofs.YtnemlgfldfedpaaGreatDoor
open Go.RowKit Go.Deep
attribute [local go_sem] fr_opt
abbrev ML:=List (MsgM×Value)
def mcs (l:ML):List Value:=l.flatMap fun p=>(p.1.cells p.2).toList
def MRow (w:World) (v:Value) (l:ML):Prop:=w.ownsRow 0 30 10 v l.length (mcs l)
theorem mcs1_len (p:MsgM×Value):(p.1.cells p.2).toList.length=10:=rfl
theorem mcs_get (l:ML) (i j:Nat) (hj:j<10):(mcs l)[i*10+j]? = (l[i]?).bind fun p=>(p.1.cells p.2).toList[j]?:=by
 unfold mcs
 induction l generalizing i with
 | nil=>simp
 | cons x l ih=>
  rw [List.flatMap_cons,List.getElem?_append]
  have hl:=mcs1_len x
  cases i with
  | zero=>rw [if_pos (by rw [hl];omega),Nat.zero_mul,Nat.zero_add];rfl
  | succ i=>
   rw [if_neg (by rw [hl];omega),hl,List.getElem?_cons_succ,←ih i]
   congr 1
   omega
theorem MRow.form {w:World} {v:Value} {l:ML} (h:MRow w v l):(v = .slice none 0 0∧l=[]) ∨
 ∃ g cap,v = .slice (some ⟨g,0,none⟩) l.length cap∧v.ownBlock=some g∧g<w.heap.size∧∀ i p,l[i]? = some p→∀ j u,(p.1.cells p.2).toList[j]? = some u→w.cell? ⟨g,i*10+j,none⟩=some u:=by
 have hc:=fun (g:Nat) (hg:v.ownBlock=some g)=>World.ownsRow.cells h (g:=g) hg
 rcases h.2 with ⟨e,h0⟩|⟨g,cap,cur,e,_,hg,h1,h2,h3,h4⟩
 ·exact .inl ⟨e,List.length_eq_zero_iff.1 h0⟩
 ·have ho:v.ownBlock=some g:=by rw [e];rfl
  refine .inr ⟨g,cap,e,ho,(Array.getElem?_eq_some_iff.1 hg).1,fun i p hp j u hu=>?_⟩
  have hj:j<10:=(List.getElem?_eq_some_iff.1 hu).1
  have q:(mcs l)[i*10+j]? = some u:=by rw [mcs_get l i j hj,hp];exact hu
  have r:=hc g ho _ _ q
  rw [add_none,Nat.zero_add] at r
  exact r
theorem MRow.len {w:World} {v:Value} {l:ML} (h:MRow w v l):∃ a cap,v = .slice a l.length cap:=by
 rcases h.form with ⟨rfl,rfl⟩|⟨g,cap,rfl,_⟩
 ·exact ⟨none,0,rfl⟩
 ·exact ⟨_,cap,rfl⟩
theorem MRow.lt {w:World} {v:Value} {l:ML} (h:MRow w v l):∀ g,v.ownBlock=some g→g<w.heap.size:=by
 intro g hg
 rcases h.form with ⟨rfl,rfl⟩|⟨g',cap,rfl,ho,hlt,_⟩
 ·cases hg
 ·rw [ho] at hg;injection hg with hg;rw [←hg];exact hlt
theorem MRow.nil (w:World):MRow w (.slice none 0 0) []:=World.ownsRow_nil _ _ _ _
theorem MRow.apart {w:World} {v:Value} {l:ML} (h:MRow w v l) {b:Nat} {c:Array Value} {t:TypeId} {fr:Nat×Nat} (hb:w.heap[b]? = some (.cells c t fr)) (ht:t≠30):∀ g,v.ownBlock=some g→g≠b:=by
 intro g hg he
 subst he
 rcases h.2 with ⟨e,_⟩|⟨g2,cap,cur,e,_,hg2,_⟩
 ·rw [e] at hg;cases hg
 ·rw [e] at hg
  injection hg with hg
  subst hg
  rw [hb] at hg2
  injection hg2 with hg2
  injection hg2 with _ h2
  exact ht h2
theorem info_msg1:(Tryz.prog.info? 30).map (fun i=>(i.zero,i.size,i.bytes))=some (some (.agg #[.int .i64 0,.int .i64 0,.int .i64 0,.int .i64 0,.int .i64 0,.int .i64 0,.string ⟨#[]⟩,.string ⟨#[]⟩,.string ⟨#[]⟩,.slice none 0 0]),10,120):=by kernel_rfl
structure AppM (w:World) (v:Value) (l:ML) (p:MsgM×Value) (v':Value) (w':World):Prop where
 row:MRow w' v' (l ++ [p])
 grown:w.grownBy w' v.ownBlock
 own:v'.ownBlock=v.ownBlock∨v'.ownBlock=some w.heap.size
theorem cells_one (p:MsgM×Value) {a:Option Addr} {n c:Nat} (hp:p.2 = .slice a n c):∀ u∈(p.1.cells p.2).toList,u.oneCell'=true:=by
 intro u hu
 rw [hp] at hu
 simp [MsgM.cells] at hu
 rcases hu with rfl|rfl|rfl|rfl|rfl|rfl|rfl|rfl|rfl|rfl<;>rfl
set_option maxRecDepth 100000 in
theorem app_msg {w:World} {v:Value} {l:ML} (p:MsgM×Value) {q c:Nat} (h:MRow w v l) (hl:l.length≤1000) {a:Option Addr} {n k:Nat} (hp:p.2 = .slice a n k) (hq:∀ j u,(p.1.cells p.2).toList[j]? = some u→w.cell? ⟨q,j,none⟩=some u) (ty:TypeId) :
 ∃ v' w',(Builtin.append_ #[22,22] ty #[v,.slice (some ⟨q,0,none⟩) 1 c]).run Tryz.prog w = .ok v' w'∧AppM w v l p v' w':=by
 obtain ⟨i0,hi,hz0,hz1,hz2⟩:=info_parts info_msg1
 obtain ⟨v',w',hr,k1,k2,_,k3⟩:=run_append_own_at (P:=Tryz.prog) (w:=w) 0 22 ty 30 i0 _ 10 120 Tryz.underlying22 hi hz0 hz1 hz2 rfl (by decide) v l.length (mcs l) h ⟨q,0,none⟩ 1 c (p.1.cells p.2).toList rfl (fun j u hu=>by rw [add_none,Nat.zero_add];exact hq j u hu) (cells_one p hp) (by unfold maxLen;omega) (by omega) (Nat.zero_le _)
 refine ⟨v',w',hr,?_,k2,k3⟩
 unfold MRow
 have e1:mcs l ++ (p.1.cells p.2).toList=mcs (l ++ [p]):=by unfold mcs;rw [List.flatMap_append];simp
 have e2:l.length+1=(l ++ [p]).length:=by simp
 rw [←e1,←e2]
 exact k1
structure RefT (w:World) (rb:Nat) (B:ByteArray) (begin:Int) (vI:Value) (ids:List Int) (vL:Value) (Ms:ML):Prop where
 at_:w.heap[rb]? = some (.cells #[.string B,.int .i64 begin,vI,vL] 42 (0,0))
 ids:OwnI w 0 vI ids
 row:MRow w vL Ms
 apI:∀ k,vI.ownBlock=some k→k≠rb∧vL.ownBlock≠some k
theorem uints_of_own {w:World} {base:Nat} {v:Value} {l:List Int} (h:OwnI w base v l):Ints w v l:=by
 rcases h with ⟨rfl,rfl⟩|⟨g,o,cap,rfl,_,_,_,_,h,_⟩
 ·exact ⟨none,0,rfl,.inl rfl⟩
 ·exact ⟨_,_,rfl,.inr ⟨g,o,rfl,h⟩⟩
theorem RefT.ref {w:World} {rb:Nat} {B:ByteArray} {begin:Int} {vI vL:Value} {ids:List Int} {Ms:ML} (h:RefT w rb B begin vI ids vL Ms):RefC w rb B begin vI vL ids:=⟨h.at_,uints_of_own h.ids⟩
def RefS (rb:Nat) (vI vL:Value) (k:Nat):Prop:=k=rb∨vI.ownBlock=some k∨vL.ownBlock=some k
theorem RefT.lt {w:World} {rb:Nat} {B:ByteArray} {begin:Int} {vI vL:Value} {ids:List Int} {Ms:ML} (h:RefT w rb B begin vI ids vL Ms) {k:Nat} (hk:RefS rb vI vL k):k<w.heap.size:=by
 rcases hk with rfl|hk|hk
 ·exact (Array.getElem?_eq_some_iff.1 h.at_).1
 ·exact (h.ids.lt k hk).2
 ·exact h.row.lt k hk
theorem RefT.chg {S:Nat→Prop} {w w':World} {rb:Nat} {B:ByteArray} {begin:Int} {vI vL:Value} {ids:List Int} {Ms:ML} (h:RefT w rb B begin vI ids vL Ms) (hc:Chg S w w') (hn:∀ k,RefS rb vI vL k→¬ S k):RefT w' rb B begin vI ids vL Ms:=
 ⟨hc.heap h.at_ (hn rb (.inl rfl)),h.ids.chg hc (fun g hg=>hn g (.inr (.inl hg))),hc.row h.row (fun g hg=>hn g (.inr (.inr hg))),h.apI⟩
theorem RefT.new {w w':World} {rb:Nat} {B:ByteArray} {begin:Int} {vI vL:Value} {ids:List Int} {Ms:ML} (h:RefT w rb B begin vI ids vL Ms) (hc:Chg (fun _=>False) w w'):RefT w' rb B begin vI ids vL Ms:=h.chg hc (fun _ _ e=>e)
structure RefTo (rb:Nat) (vI vL vI' vL':Value) (w w':World):Prop where
 chg:Chg (RefS rb vI vL) w w'
 own:∀ k,RefS rb vI' vL' k→RefS rb vI vL k∨w.heap.size≤k
end Go.Proofs.YtnemlgfldfedpaaGreatDoor
namespace Go.Proofs.YtnemlgfldfedpaaGreatDoor
open Go.RowKit Go.Deep
attribute [local go_sem] fr_opt
theorem makeF (n:Nat) (hn:n≤2000):∃ Z,(∀ W:World,(Instr.makeSlice 81 (.int .i64 n) (.int .i64 n)).run Tryz.prog W = .ok (.slice (some ⟨W.heap.size,0,none⟩) n n) (W.alloc (.cells Z 5))) ∧
 ∀ W:World,(convert 81 9 (.slice (some ⟨W.heap.size,0,none⟩) n n)).run Tryz.prog (W.alloc (.cells Z 5)) = .ok (.string (nots n)) (W.alloc (.cells Z 5)):=by
 refine ⟨madeCells #[.int .u8 0] n,fun W=>run_make_row' (P:=Tryz.prog) 81 5 (.int .u8 0) 1 Tryz.underlying81 (by kernel_rfl) rfl .i64 .i64 n (by omega) (by omega) W,fun W=>?_⟩
 have h:=World.rowIs_made W (.int .u8 0) n 5
 have hl:(List.replicate n (0:UInt8)).length=n:=List.length_replicate
 have h2:=run_convert_bytes_back (P:=Tryz.prog) (W.alloc (.cells (madeCells #[.int .u8 0] n) 5)) 81 9 5 ⟨W.heap.size,0,none⟩ n (List.replicate n 0) Tryz.underlying81 Tryz.underlying5 Tryz.underlying9 (fun j hj=>by
  rw [List.length_replicate] at hj
  rw [add_none,Nat.zero_add,h.cell hj,List.getElem_replicate]
  rfl)
 rw [hl] at h2
 exact h2
theorem putF (f:Nat) (h3:3≤f) (h4:f≤1024) (W:World):Calls Tryz.prog 31 #[.agg #[.int .i64 0,.int .i64 0,.int .i64 0,.int .i64 0,.int .i64 0,.int .i64 0,.string ⟨#[]⟩,.string ⟨#[]⟩,.string (nots f),.slice none 0 0]] W (StrTo ⟨(fillB f).toArray⟩ W):=by
 have hz:=nots_size f
 have hr:rightB (⟨0,0,0,0,0,0,⟨#[]⟩,⟨#[]⟩,nots f,[]⟩:MsgM)=true:=by
  have hn:notsB (nots f)=true:=by unfold notsB;rw [hz];simp
  simp [rightB,restB,bareB,allIn,MsgM.nums,hn,hz,h4]
 have h:=rput_any (⟨0,0,0,0,0,0,⟨#[]⟩,⟨#[]⟩,nots f,[]⟩:MsgM) (.slice none 0 0) W ⟨none,0,rfl,.inl rfl⟩ hr
 have hp:putO (⟨0,0,0,0,0,0,⟨#[]⟩,⟨#[]⟩,nots f,[]⟩:MsgM)=some (fillB f):=by
  unfold putO
  rw [if_pos hr,if_neg (by simp),if_pos (by rw [hz];exact h3),hz]
 rw [hp] at h
 exact h
def fillR (b:Nat) (M:MsgM):Nat:=costR b M - ((putO M).getD []).length
theorem fillR_eq {b:Nat} {M:MsgM} (hr:rightB M=true) (hk:M.kind≠0) (hb:b % 1024≤1021):costR b M=((putO M).getD []).length+fillR b M∧(fillR b M=0∨(fillR b M=1024 - b % 1024∧3≤fillR b M∧fillR b M≤1024)):=by
 unfold fillR costR
 rw [if_pos ⟨hr,hk⟩]
 split<;>omega
def RAppTo (rb:Nat) (B:ByteArray) (begin:Int) (vI:Value) (ids:List Int) (vL:Value) (Ms:ML) (M:MsgM) (vk:Value) (w:World) (e:Ending) (w':World):Prop:=
 ∃ B' vI' vL',e = .returned (.int .i64 ((B.size+fillR B.size M:Nat):Int))∧B'.size=B.size+costR B.size M∧RefT w' rb B' begin vI' (ids ++ [((B.size+fillR B.size M:Nat):Int)]) vL' (Ms ++ [(M,vk)])∧RefTo rb vI vL vI' vL' w w'
set_option maxHeartbeats 16000000 in
set_option maxRecDepth 100000 in
theorem rapp_any {w:World} {rb:Nat} {B:ByteArray} {begin:Int} {vI vL:Value} {ids:List Int} {Ms:ML} (h:RefT w rb B begin vI ids vL Ms) (hids:ids.length≤1000) (hMs:Ms.length≤1000) (hB:B.size≤8000000) (M:MsgM) (vk:Value) (hks:Strs w 0 vk M.keys) (hsd:Sound M) (hr:rightB M=true) (hk:M.kind≠0) (hb:B.size % 1024≤1021) :
 Calls Tryz.prog 12 #[.pointer (some ⟨rb,0,none⟩),M.val vk] w (RAppTo rb B begin vI ids vL Ms M vk w):=by
 obtain ⟨hc,hf⟩:=fillR_eq hr hk hb
 obtain ⟨ka,kc,hvk⟩:=hks.form
 subst hvk
 obtain ⟨P,hP⟩:∃ P:ByteArray,P=⟨((putO M).getD []).toArray⟩:=⟨_,rfl⟩
 obtain ⟨p,hp⟩:∃ p,p=P.size:=⟨_,rfl⟩
 have hpl:p=((putO M).getD []).length:=by rw [hp,hP,sizeL]
 have hp11:p≤1100:=by
  rw [hpl]
  cases ho:putO M with
  | none=>simp
  | some bs=>exact (put_get ho []).2.2.1
 obtain ⟨c,hcc⟩:∃ c,c=costR B.size M:=⟨_,rfl⟩
 obtain ⟨f,hff⟩:∃ f,f=fillR B.size M:=⟨_,rfl⟩
 have hcost:∀ W,Below w.heap.size w W→Calls Tryz.prog 10 #[.pointer (some ⟨rb,0,none⟩),M.val (.slice ka M.keys.length kc)] W fun e w'=>e = .returned (.int .i64 (c:Nat))∧Below W.heap.size W w':=fun W hW=>by
  have:=rcost_any (h.new (Chg.of_below hW)).ref (by omega) M (.slice ka M.keys.length kc) (hks.below hW (Nat.le_refl _)) hsd
  rw [←hcc] at this
  exact this
 have hput:∀ W,Below w.heap.size w W→Calls Tryz.prog 31 #[M.val (.slice ka M.keys.length kc)] W (StrTo P W):=fun W hW=>by
  rw [hP]
  exact rput_any M (.slice ka M.keys.length kc) W (hks.below hW (Nat.le_refl _)) hr
 rw [←hpl,←hcc,←hff] at hc
 rw [←hff] at hf
 have hpost:∀ e w',RAppTo rb B begin vI ids vL Ms M (.slice ka M.keys.length kc) w e w'↔∃ B' vI' vL',e = .returned (.int .i64 ((B.size+f:Nat):Int))∧B'.size=B.size+c∧RefT w' rb B' begin vI' (ids ++ [((B.size+f:Nat):Int)]) vL' (Ms ++ [(M,.slice ka M.keys.length kc)])∧RefTo rb vI vL vI' vL' w w':=fun e w'=>by unfold RAppTo;rw [←hcc,←hff]
 obtain ⟨m1,m2,m3,m4,m5,m6,m7,m8,m9,m10⟩:=M
 obtain ⟨kl,hkl⟩:∃ l,l=m10.length:=⟨_,rfl⟩
 unfold MsgM.val MsgM.cells at *
 dsimp only at *
 rw [←hkl] at hcost hput hpost ⊢
 obtain ⟨Post,hPost⟩:∃ Post:Ending→World→Prop,Post=RAppTo rb B begin vI ids vL Ms (⟨m1,m2,m3,m4,m5,m6,m7,m8,m9,m10⟩:MsgM) (.slice ka kl kc) w:=⟨_,rfl⟩
 rw [←hPost]
 have hpost2:∀ e w',(∃ B' vI' vL',e = .returned (.int .i64 ((B.size+f:Nat):Int))∧B'.size=B.size+c∧RefT w' rb B' begin vI' (ids ++ [((B.size+f:Nat):Int)]) vL' (Ms ++ [((⟨m1,m2,m3,m4,m5,m6,m7,m8,m9,m10⟩:MsgM),.slice ka kl kc)])∧RefTo rb vI vL vI' vL' w w')→Post e w':=fun e w' hx=>by rw [hPost];exact (hpost e w').2 hx
 obtain ⟨W0,hW0⟩:∃ W,W=w.alloc (.cells #[.int .i64 m1,.int .i64 m2,.int .i64 m3,.int .i64 m4,.int .i64 m5,.int .i64 m6,.string m7,.string m8,.string m9,.slice ka kl kc] 30):=⟨_,rfl⟩
 obtain ⟨xb,hxb⟩:∃ xb,xb=w.heap.size:=⟨_,rfl⟩
 have hB0:Below w.heap.size w W0:=hW0▸(Below.refl _ _).alloc (Nat.le_refl _) _
 have hX0:Box W0 xb #[.int .i64 m1,.int .i64 m2,.int .i64 m3,.int .i64 m4,.int .i64 m5,.int .i64 m6,.string m7,.string m8,.string m9,.slice ka kl kc]:=by rw [hxb,hW0];exact Box.new w _
 have HX:Hid (∀ W,Below W0.heap.size W0 W→Box W xb #[.int .i64 m1,.int .i64 m2,.int .i64 m3,.int .i64 m4,.int .i64 m5,.int .i64 m6,.string m7,.string m8,.string m9,.slice ka kl kc]):=Lib.hid (fun W hW=>hX0.below hW hX0.lt)
 have HR:Hid (∀ W,Below W0.heap.size W0 W→RefT W rb B begin vI ids vL Ms∧Below w.heap.size w W):=Lib.hid (fun W hW=>by
  have h1:Below w.heap.size w W:=hB0.trans (hW.mono hB0.size)
  exact ⟨h.new (Chg.of_below h1),h1⟩)
 have hlt:=(Array.getElem?_eq_some_iff.1 h.at_).1
 have HLT:Hid (rb<w.heap.size):=Lib.hid hlt
 have HCOST:=Lib.hid hcost
 have HPUT:=Lib.hid hput
 have HPOST:=Lib.hid hpost2
 have HW0:=Lib.hid hW0
 have HXB:=Lib.hid hxb
 have HB0:=Lib.hid hB0
 have HC:=Lib.hid hc
 have HF:=Lib.hid hf
 have hsub:(c:Int) - (P.size:Int)=(f:Int):=by omega
 have hPs:(P.size:Int)≤1100:=by omega
 have hBs:B.size≤8000000:=hB
 have HPS:=Lib.hid hp
 have HH:=Lib.hid h
 clear h hks hsd hr hk hb hc hf hpl hp hP hcc hff hcost hput hpost hpost2 hPost hkl hW0 hxb hB0 hX0 hlt hB
 go_enter Tryz.func12,Tryz.ntmps12
 go_upto_region 1 with fail
 rw [←HW0.out,←HXB.out]
 have hxm:=(HX.out W0 (Below.refl _ _)).cell
 go_wp2_with fail
 refine (HPUT.out W0 HB0.out).mono ?_
 rintro e w1 ⟨rfl,hb1⟩
 have hxm1:=(HX.out w1 hb1).cell
 have HB1:=Lib.hid hb1
 clear hb1 hxm
 go_wp2_with fail
 refine (HCOST.out w1 (HR.out w1 HB1.out).2).mono ?_
 rintro e W4 ⟨rfl,hb2⟩
 have HB2:=Lib.hid (HB1.out.trans (hb2.mono HB1.out.size))
 clear hb2 hxm1
 have hx4:=HX.out W4 HB2.out
 have hr4:=HR.out W4 HB2.out
 by_cases hf0:f=0
 ·obtain ⟨B1,hB1⟩:∃ B1,B1=B:=⟨_,rfl⟩
  have HT:Hid (RefT W4 rb B1 begin vI ids vL Ms):=Lib.hid (hB1▸hr4.1)
  have HS1:Hid (B1.size=B.size+f):=Lib.hid (by rw [hB1,hf0];rfl)
  have HBX:=Lib.hid hx4
  have HCH:Hid (Chg (fun k=>k=rb) w W4):=Lib.hid ((Chg.of_below hr4.2).wide (S:=fun _=>False) (fun _ _ e=>e.elim))
  have hfi:¬ (0:Int)<(f:Int):=by omega
  clear hx4 hr4 hB1 hf0
  obtain ⟨c0,c1,c2,c3,cz⟩:=HT.out.ref.cell
  have hbs1:B1.size=B.size+f:=HS1.out
  obtain ⟨B2,hB2⟩:∃ B2,B2=B1 ++ P:=⟨_,rfl⟩
  have hadd:∀ W,(Op.stringOp .add B1 P).run Tryz.prog W = .ok (.string B2) W:=fun W=>by rw [run_string_add_sum W B1 P (by omega),hB2]
  obtain ⟨W5,hW5⟩:∃ W5,W5=W4.setCell ⟨rb,0,none⟩ (.string B2):=⟨_,rfl⟩
  have hk5:Chg (fun k=>k=rb) W4 W5:=by rw [hW5];exact Chg.setCell (S:=fun k=>k=rb) (Chg.refl _ _) (fun _=>rfl) _
  have hbs2:B2.size=B.size+c:=by rw [hB2,ByteArray.size_append];have:=HC.out;have:=HPS.out;omega
  obtain ⟨r1,r2,r3,r4⟩:=HT.out
  have hat5:W5.heap[rb]? = some (.cells #[.string B2,.int .i64 begin,vI,vL] 42 (0,0)):=by
   rw [hW5,heap_setCell_same W4 rb 0 _ _ (.string B2) r1];rfl
  have hown5:OwnI W5 0 vI ids:=r2.chg hk5 (fun k hk e=>(r4 k hk).1 e)
  have hrow5:MRow W5 vL Ms:=hk5.row r3 (fun k hk e=>r3.apart r1 (by decide) k hk e)
  obtain ⟨W6,hW6⟩:∃ W6,W6=W5.alloc (.cells #[.int .i64 (B1.size:Int)] 3):=⟨_,rfl⟩
  have hk6:Chg (fun _=>False) W5 W6:=Chg.of_below (by rw [hW6];exact (Below.refl _ _).alloc (Nat.le_refl _) _)
  obtain ⟨vI',w7,hrun,ho7,hg7,hn7⟩:=append_I (hown5.chg hk6 (fun _ _ e=>e)) W5.heap.size 1 (B1.size:Int) (by rw [hW6];simp [go_sem]) (by omega) (Nat.zero_le _) 40
  obtain ⟨ia,ic,hiv⟩:=ho7.slice
  obtain ⟨ln,hln⟩:∃ ln,ln=(ids ++ [(B1.size:Int)]).length:=⟨_,rfl⟩
  rw [←hln] at hiv
  subst hiv
  have hk7:Chg (fun k=>vI.ownBlock=some k) W5 w7:=(hk6.wide (S':=fun k=>vI.ownBlock=some k) (fun _ _ e=>e.elim)).trans (Chg.of_grown (S:=fun k=>vI.ownBlock=some k) hg7 (fun k hk _=>hk)) (fun _ _ e=>e)
  have hat7:w7.heap[rb]? = some (.cells #[.string B2,.int .i64 begin,vI,vL] 42 (0,0)):=hk7.heap hat5 (fun e=>(r4 rb e).1 rfl)
  have hrow7:MRow w7 vL Ms:=hk7.row hrow5 (fun k hk e=>(r4 k e).2 hk)
  have hz5:=hk5.size
  have hz6:W6.heap.size=W5.heap.size+1:=by rw [hW6,World.size_alloc]
  have hz7:=hk7.size
  have hnI:∀ k,(Value.slice ia ln ic).ownBlock=some k→vI.ownBlock=some k∨W6.heap.size=k:=fun k hk=>by
   rcases hn7 with e|e
   ·exact .inl (e▸hk)
   ·rw [e] at hk;injection hk with hk;exact .inr hk
  have d2:w7.cell? ⟨rb,2,none⟩=some vI:=by simp [World.cell?,hat7]
  have dz:w7.frozen? ⟨rb,2,none⟩=false:=by simp [World.frozen?,hat7]
  obtain ⟨W8,hW8⟩:∃ W8,W8=w7.setCell ⟨rb,2,none⟩ (.slice ia ln ic):=⟨_,rfl⟩
  have hk8:Chg (fun k=>k=rb) w7 W8:=by rw [hW8];exact Chg.setCell (S:=fun k=>k=rb) (Chg.refl _ _) (fun _=>rfl) _
  have hat8:W8.heap[rb]? = some (.cells #[.string B2,.int .i64 begin,.slice ia ln ic,vL] 42 (0,0)):=by
   rw [hW8,heap_setCell_same w7 rb 2 _ _ (.slice ia ln ic) hat7];rfl
  have hnrb:∀ k,(Value.slice ia ln ic).ownBlock=some k→k≠rb:=fun k hk e=>by
   rcases hnI k hk with x|x
   ·exact (r4 k x).1 e
   ·have:=(Array.getElem?_eq_some_iff.1 hat5).1;omega
  have hown8:OwnI W8 0 (.slice ia ln ic) (ids ++ [(B1.size:Int)]):=ho7.chg hk8 (fun k hk e=>hnrb k hk e)
  have hrow8:MRow W8 vL Ms:=hk8.row hrow7 (fun k hk e=>hrow7.apart hat7 (by decide) k hk e)
  have hbx4:=HBX.out
  have hlx:xb<W4.heap.size:=hbx4.lt
  have hbx8:Box W8 xb #[.int .i64 m1,.int .i64 m2,.int .i64 m3,.int .i64 m4,.int .i64 m5,.int .i64 m6,.string m7,.string m8,.string m9,.slice ka kl kc]:=by
   have e1:xb≠rb:=by have:=HLT.out;have:=HXB.out;omega
   have h5:W5.heap[xb]? = _:=hk5.heap hbx4 e1
   have h7:w7.heap[xb]? = _:=hk7.heap h5 (fun e=>by have:=(HH.out.ids.lt xb e).2;have:=HXB.out;omega)
   exact hk8.heap h7 e1
  have hcw8:Chg (RefS rb vI vL) w W8:=by
   have s1:Chg (RefS rb vI vL) w W4:=HCH.out.wide (fun k _ e=>.inl e)
   have s2:=s1.trans hk5 (fun i _ e=>.inl e)
   have s3:=s2.trans hk7 (fun i _ e=>.inr (.inl e))
   exact s3.trans hk8 (fun i _ e=>.inl e)
  have hz4:=HCH.out.size
  have hvI:∀ k,(Value.slice ia ln ic).ownBlock=some k→vL.ownBlock≠some k:=fun k hk e=>by
   rcases hnI k hk with x|x
   ·exact (r4 k x).2 e
   ·have:=hrow5.lt k e;omega
  have hvI2:∀ k,(Value.slice ia ln ic).ownBlock=some k→vI.ownBlock=some k∨w.heap.size≤k:=fun k hk=>by
   rcases hnI k hk with x|x
   ·exact .inl x
   ·exact .inr (by omega)
  have hlt8:∀ k,(Value.slice ia ln ic).ownBlock=some k→k<W8.heap.size:=fun k hk=>(hown8.lt k hk).2
  obtain ⟨WA,hWA⟩:∃ WA,WA=W8.alloc (.cells #[.int .i64 m1,.int .i64 m2,.int .i64 m3,.int .i64 m4,.int .i64 m5,.int .i64 m6,.string m7,.string m8,.string m9,.slice ka kl kc] 30):=⟨_,rfl⟩
  have hkA:Chg (fun _=>False) W8 WA:=Chg.of_below (by rw [hWA];exact (Below.refl _ _).alloc (Nat.le_refl _) _)
  have hap:=fun ty=>app_msg (w:=WA.drew) ((⟨m1,m2,m3,m4,m5,m6,m7,m8,m9,m10⟩:MsgM),.slice ka kl kc) (q:=W8.heap.size) (c:=1) (show MRow WA.drew vL Ms from hkA.row hrow8 (fun _ _ e=>e)) (by omega) rfl (fun j u hu=>by
   show WA.cell? _=_
   rw [hWA,World.cell?,heap_alloc_new]
   simpa [MsgM.cells] using hu) ty
  have hfin:∀ vL' w9,AppM WA.drew vL Ms ((⟨m1,m2,m3,m4,m5,m6,m7,m8,m9,m10⟩:MsgM),.slice ka kl kc) vL' w9→w9.heap[rb]? = some (.cells #[.string B2,.int .i64 begin,.slice ia ln ic,vL] 42 (0,0))∧Post (.returned (.int .i64 (B1.size:Int))) (w9.setCell ⟨rb,3,none⟩ vL'):=fun vL' w9 ha=>by
   have k9:Chg (fun k=>vL.ownBlock=some k) WA.drew w9:=Chg.of_grown ha.grown (fun k hk _=>hk)
   have kA:Chg (fun _=>False) W8 WA.drew:=hkA.drew
   have a8:=kA.heap hat8 (fun e=>e)
   have hLr:=hrow8.apart hat8 (by decide)
   have a9:=k9.heap a8 (fun e=>hLr rb e rfl)
   refine ⟨a9,HPOST.out _ _ ⟨B2,.slice ia ln ic,vL',by rw [hbs1],hbs2,?_,?_⟩⟩
   ·have k10:Chg (fun k=>k=rb) w9 (w9.setCell ⟨rb,3,none⟩ vL'):=Chg.setCell (S:=fun k=>k=rb) (Chg.refl _ _) (fun _=>rfl) _
    have hL9:=ha.row.apart a9 (by decide)
    rw [←hbs1]
    refine ⟨?_,((hown8.chg kA (fun _ _ e=>e)).chg k9 (fun k hk e=>hvI k hk e)).chg k10 (fun k hk e=>hnrb k hk e),k10.row ha.row (fun k hk e=>hL9 k hk e),fun k hk=>⟨hnrb k hk,fun e=>?_⟩⟩
    ·rw [heap_setCell_same w9 rb 3 _ _ vL' a9];rfl
    ·rcases ha.own with x|x
     ·exact hvI k hk (x▸e)
     ·rw [x] at e
      injection e with e
      have:=hlt8 k hk
      have hzA:=kA.size
      omega
   ·have k10:Chg (fun k=>k=rb) w9 (w9.setCell ⟨rb,3,none⟩ vL'):=Chg.setCell (S:=fun k=>k=rb) (Chg.refl _ _) (fun _=>rfl) _
    have hz8:=hcw8.size
    refine ⟨((hcw8.trans kA (fun _ _ e=>e.elim)).trans k9 (fun i _ e=>.inr (.inr e))).trans k10 (fun i _ e=>.inl e),fun k hk=>?_⟩
    rcases hk with hk|hk|hk
    ·exact .inl (.inl hk)
    ·rcases hvI2 k hk with x|x
     ·exact .inl (.inr (.inl x))
     ·exact .inr x
    ·rcases ha.own with x|x
     ·exact .inl (.inr (.inr (x▸hk)))
     ·rw [x] at hk
      injection hk with hk
      have hzA:=kA.size
      exact .inr (by omega)
  have c25:W5.cell? ⟨rb,2,none⟩=some vI:=by simp [World.cell?,hat5]
  have hc83:W8.cell? ⟨rb,3,none⟩=some vL:=by simp [World.cell?,hat8]
  have hcA3:WA.cell? ⟨rb,3,none⟩=some vL:=by have:=hkA.heap hat8 (fun e=>e);simp [World.cell?,this]
  have hxm8:=hbx8.cell
  have HIV:=Lib.hid (HH.out.ids.slice)
  have HLV:=Lib.hid (hrow8.len)
  have HHRUN:=Lib.hid hrun
  have HW5:=Lib.hid hW5
  have HW6:=Lib.hid hW6
  have HW8:=Lib.hid hW8
  have HWA:=Lib.hid hWA
  have HAP:=Lib.hid hap
  have HFIN:=Lib.hid hfin
  clear hB2 hW5 hk5 hbs2 r1 r2 r3 r4 hat5 hown5 hrow5 hW6 hk6 hrun ho7 hg7 hn7 hln hk7 hat7 hrow7 hz5 hz6 hz7 hnI hW8 hk8 hat8 hnrb hown8 hrow8 hbx4 hlx hbx8 hcw8 hz4 hvI hvI2 hlt8 hWA hkA hap hfin hbs1
  go_upto_region 7 with fail
  rw [←HW5.out]
  obtain ⟨ja,jc,hjv⟩:=HIV.out
  obtain ⟨jn,hjn⟩:∃ jn,jn=ids.length:=⟨_,rfl⟩
  rw [←hjn] at hjv
  subst hjv
  clear hjn
  go_wp2_with (at_builtin;rw [←HW6.out];refine Lib.wpList_append_run _ rfl _ _ _ _ rfl _ _ rfl rfl _ _ HHRUN.out ?_)
  go_upto_region 8 with fail
  rw [←HW8.out]
  rename_i Kc hc
  refine region_ph (n:=66) 12 [6,7,10] rfl rfl (by kernel_rfl) (by kernel_rfl) (by kernel_rfl) (fun i u=>match i with|0=>u = .pointer (some ⟨rb,0,none⟩)|1=>u = .pointer (some ⟨rb,0,none⟩)|2=>u = .pointer (some ⟨rb,0,none⟩)|3=>u = .pointer (some ⟨rb,3,none⟩)|4=>u=vL|5=>u = .agg #[.int .i64 m1,.int .i64 m2,.int .i64 m3,.int .i64 m4,.int .i64 m5,.int .i64 m6,.string m7,.string m8,.string m9,.slice ka kl kc]|6=>u = .slice (some ⟨W8.heap.size,0,none⟩) 1 1|8=>u = .pointer (some ⟨rb,0,none⟩)|9=>u = .pointer (some ⟨rb,3,none⟩)|_=>True)
   (fun p fr w'=>match p with|0=>W8.drew=w'|1=>WA.drew=w'|2=>AppM WA.drew vL Ms ((⟨m1,m2,m3,m4,m5,m6,m7,m8,m9,m10⟩:MsgM),.slice ka kl kc) (fr 62) w'|_=>∃ w1 v',AppM WA.drew vL Ms ((⟨m1,m2,m3,m4,m5,m6,m7,m8,m9,m10⟩:MsgM),.slice ka kl kc) v' w1∧w1.setCell ⟨rb,3,none⟩ v'=w') ?_ ?_ ?_
  ·exact rfl
  ·simp only [AllAt]
   refine ⟨?_,?_,?_,?_,?_,?_,?_,?_,?_,?_,?_,trivial⟩
   ·refine StepPh.reg rfl (by decide) (fun d hd=>by cases hd;decide) ?_
    intro fr w' p hG hup hdn hfr hp K hK
    have g0:fr 0 = .pointer (some ⟨rb,0,none⟩):=hfr 0 (by kernel_rfl)
    clear hfr hp hup hdn
    go_simp
    exact hK _ _ rfl hG
   ·refine StepPh.reg rfl (by decide) (fun d hd=>by cases hd;decide) ?_
    intro fr w' p hG hup hdn hfr hp K hK
    have g0:fr 0 = .pointer (some ⟨rb,0,none⟩):=hfr 0 (by kernel_rfl)
    clear hfr hp hup hdn
    go_simp
    exact hK _ _ rfl hG
   ·refine StepPh.reg rfl (by decide) (fun d hd=>by cases hd;decide) ?_
    intro fr w' p hG hup hdn hfr hp K hK
    have g56:fr 56 = .pointer (some ⟨rb,0,none⟩):=hp 1 _ 56 rfl rfl (by kernel_rfl)
    clear hfr hp hup hdn
    go_simp
    exact hK _ _ rfl hG
   ·refine StepPh.reg rfl (by decide) (fun d hd=>by cases hd;decide) ?_
    intro fr w' p hG hup hdn hfr hp K hK
    have g57:fr 57 = .pointer (some ⟨rb,0,none⟩):=hp 2 _ 57 rfl rfl (by kernel_rfl)
    clear hfr hp hup hdn
    go_simp
    exact hK _ _ rfl hG
   ·refine StepPh.reg rfl (by decide) (fun d hd=>by cases hd;decide) ?_
    intro fr w' p hG hup hdn hfr hp K hK
    have g58:fr 58 = .pointer (some ⟨rb,3,none⟩):=hp 3 _ 58 rfl rfl (by kernel_rfl)
    have hpp:p=0∨p=1:=by have:=hdn 1 (by decide) (.inl (by kernel_rfl));omega
    clear hfr hp hup hdn
    rcases hpp with rfl|rfl
    ·have hGe:W8.drew=w':=hG
     subst hGe
     go_simp
     exact hK _ _ rfl hG
    ·have hGe:WA.drew=w':=hG
     subst hGe
     go_simp
     exact hK _ _ rfl hG
   ·refine StepPh.reg rfl (by decide) (fun d hd=>by cases hd;decide) ?_
    intro fr w' p hG hup hdn hfr hp K hK
    have g3:fr 3 = .pointer (some ⟨xb,0,none⟩):=hfr 3 (by kernel_rfl)
    have hpp:p=0:=by have:=hdn 0 (by decide) (.inl (by kernel_rfl));omega
    clear hfr hp hup hdn
    subst hpp
    have hGe:W8.drew=w':=hG
    subst hGe
    go_simp
    exact hK _ _ rfl hG
   ·refine StepPh.wr 0 rfl (by decide) rfl (fun d hd=>by cases hd;decide) (fun j hj=>by omega) ?_
    intro fr w' hG hfr hp K hK
    have g60:fr 60 = .agg #[.int .i64 m1,.int .i64 m2,.int .i64 m3,.int .i64 m4,.int .i64 m5,.int .i64 m6,.string m7,.string m8,.string m9,.slice ka kl kc]:=hp 5 _ 60 rfl rfl (by kernel_rfl)
    clear hfr hp
    have hGe:W8.drew=w':=hG
    subst hGe
    go_simp
    exact hK _ _ (fun _=>rfl) (by show WA.drew=_;rw [HWA.out])
   ·refine StepPh.wr 1 rfl (by decide) rfl (fun d hd=>by cases hd;decide) (fun j hj=>by (obtain rfl:j=0:=(by omega));kernel_rfl) ?_
    intro fr w' hG hfr hp K hK
    have g59:fr 59=vL:=hp 4 _ 59 rfl rfl (by kernel_rfl)
    have g61:fr 61 = .slice (some ⟨W8.heap.size,0,none⟩) 1 1:=hp 6 _ 61 rfl rfl (by kernel_rfl)
    clear hfr hp
    have hGe:WA.drew=w':=hG
    subst hGe
    obtain ⟨v',w2',hrun,hap⟩:=HAP.out 22
    unfold Oper.wp
    simp [execOp,resolve,invoke,builtin,fr_eval,g59,g61,hrun,Result.andThen]
    exact hK _ _ (fun _=>trivial) hap
   ·refine StepPh.reg rfl (by decide) (fun d hd=>by cases hd;decide) ?_
    intro fr w' p hG hup hdn hfr hp K hK
    have g55:fr 55 = .pointer (some ⟨rb,0,none⟩):=hp 0 _ 55 rfl rfl (by kernel_rfl)
    clear hfr hp hup hdn
    go_simp
    exact hK _ _ rfl hG
   ·refine StepPh.reg rfl (by decide) (fun d hd=>by cases hd;decide) ?_
    intro fr w' p hG hup hdn hfr hp K hK
    have g63:fr 63 = .pointer (some ⟨rb,0,none⟩):=hp 8 _ 63 rfl rfl (by kernel_rfl)
    clear hfr hp hup hdn
    go_simp
    exact hK _ _ rfl hG
   ·refine StepPh.wr 2 rfl (by decide) rfl (fun d hd=>by cases hd) (fun j hj=>by rcases (by omega:j=0∨j=1) with rfl|rfl<;>kernel_rfl) ?_
    intro fr w' hG hfr hp K hK
    have g64:fr 64 = .pointer (some ⟨rb,3,none⟩):=hp 9 _ 64 rfl rfl (by kernel_rfl)
    clear hfr hp
    have hG1:AppM WA.drew vL Ms ((⟨m1,m2,m3,m4,m5,m6,m7,m8,m9,m10⟩:MsgM),.slice ka kl kc) (fr 62) w':=hG
    have ht7:=(HFIN.out _ _ hG1).1
    obtain ⟨p',c',g62⟩:=hG1.row.len
    have hcell:w'.cell? ⟨rb,3,none⟩=some vL:=by simp [World.cell?,ht7]
    have hfz:w'.frozen? ⟨rb,3,none⟩=false:=by simp [World.frozen?,ht7]
    obtain ⟨la,lc,hlv⟩:=HLV.out
    obtain ⟨ln,hln⟩:∃ ln,ln=Ms.length:=⟨_,rfl⟩
    rw [←hln] at hlv
    rw [hlv] at hcell
    obtain ⟨vn,hvn⟩:∃ vn,vn=(Ms ++ [((⟨m1,m2,m3,m4,m5,m6,m7,m8,m9,m10⟩:MsgM),Value.slice ka kl kc)]).length:=⟨_,rfl⟩
    rw [←hvn] at g62
    rw [g62] at hG1
    clear hvn ht7 hln
    go_simp
    exact hK undef _ (fun h=>by cases h) ⟨w',_,hG1,by simp⟩
  ·intro fr w7' hG hfr hR
   refine hc _ _ ?_
   clear hR
   obtain ⟨wp,v',hP,rfl⟩:=hG
   have hback:=fr_back (n:=66) (f:=fr) (D:=[55,56,57,58,59,60,61,62,63,64]) rfl (by kernel_rfl) hfr
   rw [hback]
   simp only [mixL,List.elem_eq_contains,List.contains_cons,List.contains_nil,Nat.reduceBEq,Nat.reduceAdd,Bool.or_false,Bool.or_true,Bool.false_or,Bool.true_or,cond_false,cond_true,Bool.or_self,Nat.zero_add]
   clear hback hfr
   have hF:=(HFIN.out v' wp hP).2
   have HF:=Lib.hid hF
   clear hF
   generalize wp.setCell ⟨rb,3,none⟩ v'=W9 at *
   go_wp2_with fail
   exact HF.out
 ·have h3:3≤f∧f≤1024:=by have:=HF.out;omega
  have hfi:(0:Int)<(f:Int):=by omega
  obtain ⟨Z,hZ1,hZ2⟩:=makeF f (by omega)
  obtain ⟨PF,hPF⟩:∃ PF:ByteArray,PF=⟨(fillB f).toArray⟩:=⟨_,rfl⟩
  have hPFz:PF.size=f:=by rw [hPF,sizeL,fillB_length f h3.1]
  have hFIL:∀ W,Calls Tryz.prog 31 #[.agg #[.int .i64 0,.int .i64 0,.int .i64 0,.int .i64 0,.int .i64 0,.int .i64 0,.string ⟨#[]⟩,.string ⟨#[]⟩,.string (nots f),.slice none 0 0]] W (StrTo PF W):=fun W=>by rw [hPF];exact putF f h3.1 h3.2 W
  obtain ⟨WZ,hWZ⟩:∃ WZ,WZ=W4.drew.alloc (.cells Z 5):=⟨_,rfl⟩
  obtain ⟨B1,hB1⟩:∃ B1,B1=B ++ PF:=⟨_,rfl⟩
  have haddF:∀ W,(Op.stringOp .add B PF).run Tryz.prog W = .ok (.string B1) W:=fun W=>by rw [run_string_add_sum W B PF (by omega),hB1]
  have hDZ:Below W4.heap.size W4 WZ:=by rw [hWZ];exact ((Below.refl _ _).drew).alloc (Nat.le_refl _) _
  have hxlt:xb<W4.heap.size:=hx4.lt
  have HRB:Hid (∀ W,Below W4.heap.size W4 W→W.heap[rb]? = some (.cells #[.string B,.int .i64 begin,vI,vL] 42 (0,0))∧RefT W rb B begin vI ids vL Ms∧Box W xb #[.int .i64 m1,.int .i64 m2,.int .i64 m3,.int .i64 m4,.int .i64 m5,.int .i64 m6,.string m7,.string m8,.string m9,.slice ka kl kc]):=Lib.hid (fun W hW=>by
   have:=hr4.1.new (Chg.of_below hW)
   exact ⟨this.at_,this,hx4.below hW hxlt⟩)
  have hZr:WZ.heap.size=W4.heap.size+1:=by rw [hWZ,World.size_alloc,World.size_drew]
  have HMF:Hid ((Instr.makeSlice 81 (.int .i64 f) (.int .i64 f)).run Tryz.prog W4.drew = .ok (.slice (some ⟨W4.heap.size,0,none⟩) f f) WZ):=Lib.hid (by rw [hWZ];exact hZ1 W4.drew)
  have HCV:Hid ((convert 81 9 (.slice (some ⟨W4.heap.size,0,none⟩) f f)).run Tryz.prog WZ = .ok (.string (nots f)) WZ):=Lib.hid (by rw [hWZ];exact hZ2 W4.drew)
  have HDZ:=Lib.hid hDZ
  have HFIL:=Lib.hid hFIL
  have HADF:=Lib.hid haddF
  have HD0:Hid (Below W4.heap.size W4 W4.drew):=Lib.hid ((Below.refl _ _).drew)
  have HPFZ:=Lib.hid hPFz
  have HB1:=Lib.hid hB1
  have HR4:=Lib.hid hr4.2
  clear hZ1 hZ2 hPFz hFIL hWZ haddF hDZ hxlt hZr hr4 hx4 hPF hB1
  go_upto_region 4 with fail
  rename_i Kc hc hpos
  refine region_ph (n:=66) 12 [6,9,13] rfl rfl (by kernel_rfl) (by kernel_rfl) (by kernel_rfl) (fun i u=>match i with|0=>u = .pointer (some ⟨rb,0,none⟩)|1=>u = .pointer (some ⟨rb,0,none⟩)|2=>u = .pointer (some ⟨rb,0,none⟩)|3=>u = .pointer (some ⟨rb,0,none⟩)|4=>u = .string B|5=>u = .int .i64 (f:Int)|6=>u = .slice (some ⟨W4.heap.size,0,none⟩) f f|7=>u = .string (nots f)|8=>u = .agg #[.int .i64 0,.int .i64 0,.int .i64 0,.int .i64 0,.int .i64 0,.int .i64 0,.string ⟨#[]⟩,.string ⟨#[]⟩,.string (nots f),.slice none 0 0]|9=>u = .string PF|10=>u = .string B1|11=>u = .pointer (some ⟨rb,0,none⟩)|12=>u = .pointer (some ⟨rb,0,none⟩)|_=>True)
   (fun p fr w'=>match p with|0=>W4.drew=w'|1=>WZ=w'|2=>Below W4.heap.size W4 w'|_=>∃ w1,Below W4.heap.size W4 w1∧w1.setCell ⟨rb,0,none⟩ (.string B1)=w') ?_ ?_ ?_
  ·exact rfl
  ·simp only [AllAt]
   refine ⟨?_,?_,?_,?_,?_,?_,?_,?_,?_,?_,?_,?_,?_,?_,trivial⟩
   ·refine StepPh.reg rfl (by decide) (fun d hd=>by cases hd;decide) ?_
    intro fr w' p hG hup hdn hfr hp K hK
    have g0:fr 0 = .pointer (some ⟨rb,0,none⟩):=hfr 0 (by kernel_rfl)
    clear hfr hp hup hdn
    go_simp
    exact hK _ _ rfl hG
   ·refine StepPh.reg rfl (by decide) (fun d hd=>by cases hd;decide) ?_
    intro fr w' p hG hup hdn hfr hp K hK
    have g0:fr 0 = .pointer (some ⟨rb,0,none⟩):=hfr 0 (by kernel_rfl)
    clear hfr hp hup hdn
    go_simp
    exact hK _ _ rfl hG
   ·refine StepPh.reg rfl (by decide) (fun d hd=>by cases hd;decide) ?_
    intro fr w' p hG hup hdn hfr hp K hK
    have g19:fr 19 = .pointer (some ⟨rb,0,none⟩):=hp 1 _ 19 rfl rfl (by kernel_rfl)
    clear hfr hp hup hdn
    go_simp
    exact hK _ _ rfl hG
   ·refine StepPh.reg rfl (by decide) (fun d hd=>by cases hd;decide) ?_
    intro fr w' p hG hup hdn hfr hp K hK
    have g20:fr 20 = .pointer (some ⟨rb,0,none⟩):=hp 2 _ 20 rfl rfl (by kernel_rfl)
    clear hfr hp hup hdn
    go_simp
    exact hK _ _ rfl hG
   ·refine StepPh.reg rfl (by decide) (fun d hd=>by cases hd;decide) ?_
    intro fr w' p hG hup hdn hfr hp K hK
    have g21:fr 21 = .pointer (some ⟨rb,0,none⟩):=hp 3 _ 21 rfl rfl (by kernel_rfl)
    have hpp:p=0∨p=1∨p=2:=by have:=hdn 2 (by decide) (.inl (by kernel_rfl));omega
    clear hfr hp hup hdn
    have hbw:Below W4.heap.size W4 w':=by
     rcases hpp with rfl|rfl|rfl
     ·exact (show W4.drew=w' from hG)▸HD0.out
     ·exact (show WZ=w' from hG)▸HDZ.out
     ·exact hG
    have hat:=(HRB.out w' hbw).1
    have hcell:w'.cell? ⟨rb,0,none⟩=some (.string B):=by simp [World.cell?,hat]
    clear hbw hat hpp
    go_simp
    exact hK _ _ rfl hG
   ·refine StepPh.reg rfl (by decide) (fun d hd=>by cases hd;decide) ?_
    intro fr w' p hG hup hdn hfr hp K hK
    have g6:fr 6 = .int .i64 (f:Int):=hfr 6 (by kernel_rfl)
    clear hfr hp hup hdn
    go_simp
    exact hK _ _ rfl hG
   ·refine StepPh.wr 0 rfl (by decide) rfl (fun d hd=>by cases hd;decide) (fun j hj=>by omega) ?_
    intro fr w' hG hfr hp K hK
    have g23:fr 23 = .int .i64 (f:Int):=hp 5 _ 23 rfl rfl (by kernel_rfl)
    clear hfr hp
    have hGe:W4.drew=w':=hG
    subst hGe
    have hm:=HMF.out
    unfold Oper.wp
    simp [execOp,resolve,fr_eval,g23,hm,Result.andThen]
    exact hK _ _ (fun _=>rfl) rfl
   ·refine StepPh.reg rfl (by decide) (fun d hd=>by cases hd;decide) ?_
    intro fr w' p hG hup hdn hfr hp K hK
    have g24:fr 24 = .slice (some ⟨W4.heap.size,0,none⟩) f f:=hp 6 _ 24 rfl rfl (by kernel_rfl)
    have hpp:p=1:=by have h1:=hdn 1 (by decide) (.inl (by kernel_rfl));have h2:=hup 0 (by decide) (by kernel_rfl);omega
    clear hfr hp hup hdn
    subst hpp
    have hGe:WZ=w':=hG
    subst hGe
    have hm:=HCV.out
    go_simp
    exact hK _ _ rfl hG
   ·refine StepPh.reg rfl (by decide) (fun d hd=>by cases hd;decide) ?_
    intro fr w' p hG hup hdn hfr hp K hK
    have g25:fr 25 = .string (nots f):=hp 7 _ 25 rfl rfl (by kernel_rfl)
    clear hfr hp hup hdn
    go_simp
    exact hK _ _ rfl hG
   ·refine StepPh.wr 1 rfl (by decide) rfl (fun d hd=>by cases hd;decide) (fun j hj=>by (obtain rfl:j=0:=(by omega));kernel_rfl) ?_
    intro fr w' hG hfr hp K hK
    have g26:fr 26 = .agg #[.int .i64 0,.int .i64 0,.int .i64 0,.int .i64 0,.int .i64 0,.int .i64 0,.string ⟨#[]⟩,.string ⟨#[]⟩,.string (nots f),.slice none 0 0]:=hp 8 _ 26 rfl rfl (by kernel_rfl)
    clear hfr hp
    have hGe:WZ=w':=hG
    subst hGe
    go_simp
    refine (HFIL.out WZ).mono ?_
    rintro en w1 ⟨rfl,hb⟩
    exact hK _ _ (fun _=>rfl) (HDZ.out.trans (hb.mono HDZ.out.size))
   ·refine StepPh.reg rfl (by decide) (fun d hd=>by cases hd;decide) ?_
    intro fr w' p hG hup hdn hfr hp K hK
    have g22:fr 22 = .string B:=hp 4 _ 22 rfl rfl (by kernel_rfl)
    have g27:fr 27 = .string PF:=hp 9 _ 27 rfl rfl (by kernel_rfl)
    clear hfr hp hup hdn
    have hm:=HADF.out w'
    go_simp
    exact hK _ _ rfl hG
   ·refine StepPh.reg rfl (by decide) (fun d hd=>by cases hd;decide) ?_
    intro fr w' p hG hup hdn hfr hp K hK
    have g18:fr 18 = .pointer (some ⟨rb,0,none⟩):=hp 0 _ 18 rfl rfl (by kernel_rfl)
    clear hfr hp hup hdn
    go_simp
    exact hK _ _ rfl hG
   ·refine StepPh.reg rfl (by decide) (fun d hd=>by cases hd;decide) ?_
    intro fr w' p hG hup hdn hfr hp K hK
    have g29:fr 29 = .pointer (some ⟨rb,0,none⟩):=hp 11 _ 29 rfl rfl (by kernel_rfl)
    clear hfr hp hup hdn
    go_simp
    exact hK _ _ rfl hG
   ·refine StepPh.wr 2 rfl (by decide) rfl (fun d hd=>by cases hd) (fun j hj=>by rcases (by omega:j=0∨j=1) with rfl|rfl<;>kernel_rfl) ?_
    intro fr w' hG hfr hp K hK
    have g30:fr 30 = .pointer (some ⟨rb,0,none⟩):=hp 12 _ 30 rfl rfl (by kernel_rfl)
    have g28:fr 28 = .string B1:=hp 10 _ 28 rfl rfl (by kernel_rfl)
    clear hfr hp
    have hG1:Below W4.heap.size W4 w':=hG
    have hat:=(HRB.out w' hG1).1
    have hcell:w'.cell? ⟨rb,0,none⟩=some (.string B):=by simp [World.cell?,hat]
    have hfz:w'.frozen? ⟨rb,0,none⟩=false:=by simp [World.frozen?,hat]
    clear hat
    go_simp
    exact hK undef _ (fun h=>by cases h) ⟨w',hG1,by simp⟩
  ·intro fr w7' hG hfr hR
   refine hc _ _ ?_
   clear hR
   obtain ⟨wp,hP,rfl⟩:=hG
   have hback:=fr_back (n:=66) (f:=fr) (D:=[18,19,20,21,22,23,24,25,26,27,28,29,30]) rfl (by kernel_rfl) hfr
   rw [hback]
   simp only [mixL,List.elem_eq_contains,List.contains_cons,List.contains_nil,Nat.reduceBEq,Nat.reduceAdd,Bool.or_false,Bool.or_true,Bool.false_or,Bool.true_or,cond_false,cond_true,Bool.or_self,Nat.zero_add]
   clear hback hfr
   obtain ⟨q1,q2,q3⟩:=HRB.out wp hP
   obtain ⟨W9,hW9⟩:∃ W9,W9=wp.setCell ⟨rb,0,none⟩ (.string B1):=⟨_,rfl⟩
   have hk9:Chg (fun k=>k=rb) wp W9:=by rw [hW9];exact Chg.setCell (S:=fun k=>k=rb) (Chg.refl _ _) (fun _=>rfl) _
   have hrlt:=HLT.out
   have hxbe:=HXB.out
   have HT:Hid (RefT W9 rb B1 begin vI ids vL Ms):=Lib.hid (by
    refine ⟨?_,q2.ids.chg hk9 (fun k hk e=>(q2.apI k hk).1 e),hk9.row q2.row (fun k hk e=>q2.row.apart q1 (by decide) k hk e),q2.apI⟩
    rw [hW9,heap_setCell_same wp rb 0 _ _ (.string B1) q1];rfl)
   have HS1:Hid (B1.size=B.size+f):=Lib.hid (by rw [HB1.out,ByteArray.size_append,HPFZ.out])
   have HBX:Hid (Box W9 xb #[.int .i64 m1,.int .i64 m2,.int .i64 m3,.int .i64 m4,.int .i64 m5,.int .i64 m6,.string m7,.string m8,.string m9,.slice ka kl kc]):=Lib.hid (hk9.heap q3 (by omega))
   have c1:Chg (fun _=>False) w W4:=Chg.of_below HR4.out
   have c2:Chg (fun _=>False) W4 wp:=Chg.of_below hP
   have HCH:Hid (Chg (fun k=>k=rb) w W9):=Lib.hid (((c1.trans c2 (fun _ _ e=>e)).wide (S':=fun k=>k=rb) (fun _ _ e=>e.elim)).trans hk9 (fun i _ e=>e))
   rw [←hW9]
   clear c1 c2 q1 q2 q3 hk9 hrlt hxbe hP hW9
   clear HB1 HR4 HPFZ HD0 HADF HFIL HDZ HMF HCV HRB hf0 hfi
   obtain ⟨c0,c1,c2,c3,cz⟩:=HT.out.ref.cell
   have hbs1:B1.size=B.size+f:=HS1.out
   obtain ⟨B2,hB2⟩:∃ B2,B2=B1 ++ P:=⟨_,rfl⟩
   have hadd:∀ W,(Op.stringOp .add B1 P).run Tryz.prog W = .ok (.string B2) W:=fun W=>by rw [run_string_add_sum W B1 P (by omega),hB2]
   obtain ⟨W5,hW5⟩:∃ W5,W5=W9.setCell ⟨rb,0,none⟩ (.string B2):=⟨_,rfl⟩
   have hk5:Chg (fun k=>k=rb) W9 W5:=by rw [hW5];exact Chg.setCell (S:=fun k=>k=rb) (Chg.refl _ _) (fun _=>rfl) _
   have hbs2:B2.size=B.size+c:=by rw [hB2,ByteArray.size_append];have:=HC.out;have:=HPS.out;omega
   obtain ⟨r1,r2,r3,r4⟩:=HT.out
   have hat5:W5.heap[rb]? = some (.cells #[.string B2,.int .i64 begin,vI,vL] 42 (0,0)):=by
    rw [hW5,heap_setCell_same W9 rb 0 _ _ (.string B2) r1];rfl
   have hown5:OwnI W5 0 vI ids:=r2.chg hk5 (fun k hk e=>(r4 k hk).1 e)
   have hrow5:MRow W5 vL Ms:=hk5.row r3 (fun k hk e=>r3.apart r1 (by decide) k hk e)
   obtain ⟨W6,hW6⟩:∃ W6,W6=W5.alloc (.cells #[.int .i64 (B1.size:Int)] 3):=⟨_,rfl⟩
   have hk6:Chg (fun _=>False) W5 W6:=Chg.of_below (by rw [hW6];exact (Below.refl _ _).alloc (Nat.le_refl _) _)
   obtain ⟨vI',w7,hrun,ho7,hg7,hn7⟩:=append_I (hown5.chg hk6 (fun _ _ e=>e)) W5.heap.size 1 (B1.size:Int) (by rw [hW6];simp [go_sem]) (by omega) (Nat.zero_le _) 40
   obtain ⟨ia,ic,hiv⟩:=ho7.slice
   obtain ⟨ln,hln⟩:∃ ln,ln=(ids ++ [(B1.size:Int)]).length:=⟨_,rfl⟩
   rw [←hln] at hiv
   subst hiv
   have hk7:Chg (fun k=>vI.ownBlock=some k) W5 w7:=(hk6.wide (S':=fun k=>vI.ownBlock=some k) (fun _ _ e=>e.elim)).trans (Chg.of_grown (S:=fun k=>vI.ownBlock=some k) hg7 (fun k hk _=>hk)) (fun _ _ e=>e)
   have hat7:w7.heap[rb]? = some (.cells #[.string B2,.int .i64 begin,vI,vL] 42 (0,0)):=hk7.heap hat5 (fun e=>(r4 rb e).1 rfl)
   have hrow7:MRow w7 vL Ms:=hk7.row hrow5 (fun k hk e=>(r4 k e).2 hk)
   have hz5:=hk5.size
   have hz6:W6.heap.size=W5.heap.size+1:=by rw [hW6,World.size_alloc]
   have hz7:=hk7.size
   have hnI:∀ k,(Value.slice ia ln ic).ownBlock=some k→vI.ownBlock=some k∨W6.heap.size=k:=fun k hk=>by
    rcases hn7 with e|e
    ·exact .inl (e▸hk)
    ·rw [e] at hk;injection hk with hk;exact .inr hk
   have d2:w7.cell? ⟨rb,2,none⟩=some vI:=by simp [World.cell?,hat7]
   have dz:w7.frozen? ⟨rb,2,none⟩=false:=by simp [World.frozen?,hat7]
   obtain ⟨W8,hW8⟩:∃ W8,W8=w7.setCell ⟨rb,2,none⟩ (.slice ia ln ic):=⟨_,rfl⟩
   have hk8:Chg (fun k=>k=rb) w7 W8:=by rw [hW8];exact Chg.setCell (S:=fun k=>k=rb) (Chg.refl _ _) (fun _=>rfl) _
   have hat8:W8.heap[rb]? = some (.cells #[.string B2,.int .i64 begin,.slice ia ln ic,vL] 42 (0,0)):=by
    rw [hW8,heap_setCell_same w7 rb 2 _ _ (.slice ia ln ic) hat7];rfl
   have hnrb:∀ k,(Value.slice ia ln ic).ownBlock=some k→k≠rb:=fun k hk e=>by
    rcases hnI k hk with x|x
    ·exact (r4 k x).1 e
    ·have:=(Array.getElem?_eq_some_iff.1 hat5).1;omega
   have hown8:OwnI W8 0 (.slice ia ln ic) (ids ++ [(B1.size:Int)]):=ho7.chg hk8 (fun k hk e=>hnrb k hk e)
   have hrow8:MRow W8 vL Ms:=hk8.row hrow7 (fun k hk e=>hrow7.apart hat7 (by decide) k hk e)
   have hbx4:=HBX.out
   have hlx:xb<W9.heap.size:=hbx4.lt
   have hbx8:Box W8 xb #[.int .i64 m1,.int .i64 m2,.int .i64 m3,.int .i64 m4,.int .i64 m5,.int .i64 m6,.string m7,.string m8,.string m9,.slice ka kl kc]:=by
    have e1:xb≠rb:=by have:=HLT.out;have:=HXB.out;omega
    have h5:W5.heap[xb]? = _:=hk5.heap hbx4 e1
    have h7:w7.heap[xb]? = _:=hk7.heap h5 (fun e=>by have:=(HH.out.ids.lt xb e).2;have:=HXB.out;omega)
    exact hk8.heap h7 e1
   have hcw8:Chg (RefS rb vI vL) w W8:=by
    have s1:Chg (RefS rb vI vL) w W9:=HCH.out.wide (fun k _ e=>.inl e)
    have s2:=s1.trans hk5 (fun i _ e=>.inl e)
    have s3:=s2.trans hk7 (fun i _ e=>.inr (.inl e))
    exact s3.trans hk8 (fun i _ e=>.inl e)
   have hz4:=HCH.out.size
   have hvI:∀ k,(Value.slice ia ln ic).ownBlock=some k→vL.ownBlock≠some k:=fun k hk e=>by
    rcases hnI k hk with x|x
    ·exact (r4 k x).2 e
    ·have:=hrow5.lt k e;omega
   have hvI2:∀ k,(Value.slice ia ln ic).ownBlock=some k→vI.ownBlock=some k∨w.heap.size≤k:=fun k hk=>by
    rcases hnI k hk with x|x
    ·exact .inl x
    ·exact .inr (by omega)
   have hlt8:∀ k,(Value.slice ia ln ic).ownBlock=some k→k<W8.heap.size:=fun k hk=>(hown8.lt k hk).2
   obtain ⟨WA,hWA⟩:∃ WA,WA=W8.alloc (.cells #[.int .i64 m1,.int .i64 m2,.int .i64 m3,.int .i64 m4,.int .i64 m5,.int .i64 m6,.string m7,.string m8,.string m9,.slice ka kl kc] 30):=⟨_,rfl⟩
   have hkA:Chg (fun _=>False) W8 WA:=Chg.of_below (by rw [hWA];exact (Below.refl _ _).alloc (Nat.le_refl _) _)
   have hap:=fun ty=>app_msg (w:=WA.drew) ((⟨m1,m2,m3,m4,m5,m6,m7,m8,m9,m10⟩:MsgM),.slice ka kl kc) (q:=W8.heap.size) (c:=1) (show MRow WA.drew vL Ms from hkA.row hrow8 (fun _ _ e=>e)) (by omega) rfl (fun j u hu=>by
    show WA.cell? _=_
    rw [hWA,World.cell?,heap_alloc_new]
    simpa [MsgM.cells] using hu) ty
   have hfin:∀ vL' w9,AppM WA.drew vL Ms ((⟨m1,m2,m3,m4,m5,m6,m7,m8,m9,m10⟩:MsgM),.slice ka kl kc) vL' w9→w9.heap[rb]? = some (.cells #[.string B2,.int .i64 begin,.slice ia ln ic,vL] 42 (0,0))∧Post (.returned (.int .i64 (B1.size:Int))) (w9.setCell ⟨rb,3,none⟩ vL'):=fun vL' w9 ha=>by
    have k9:Chg (fun k=>vL.ownBlock=some k) WA.drew w9:=Chg.of_grown ha.grown (fun k hk _=>hk)
    have kA:Chg (fun _=>False) W8 WA.drew:=hkA.drew
    have a8:=kA.heap hat8 (fun e=>e)
    have hLr:=hrow8.apart hat8 (by decide)
    have a9:=k9.heap a8 (fun e=>hLr rb e rfl)
    refine ⟨a9,HPOST.out _ _ ⟨B2,.slice ia ln ic,vL',by rw [hbs1],hbs2,?_,?_⟩⟩
    ·have k10:Chg (fun k=>k=rb) w9 (w9.setCell ⟨rb,3,none⟩ vL'):=Chg.setCell (S:=fun k=>k=rb) (Chg.refl _ _) (fun _=>rfl) _
     have hL9:=ha.row.apart a9 (by decide)
     rw [←hbs1]
     refine ⟨?_,((hown8.chg kA (fun _ _ e=>e)).chg k9 (fun k hk e=>hvI k hk e)).chg k10 (fun k hk e=>hnrb k hk e),k10.row ha.row (fun k hk e=>hL9 k hk e),fun k hk=>⟨hnrb k hk,fun e=>?_⟩⟩
     ·rw [heap_setCell_same w9 rb 3 _ _ vL' a9];rfl
     ·rcases ha.own with x|x
      ·exact hvI k hk (x▸e)
      ·rw [x] at e
       injection e with e
       have:=hlt8 k hk
       have hzA:=kA.size
       omega
    ·have k10:Chg (fun k=>k=rb) w9 (w9.setCell ⟨rb,3,none⟩ vL'):=Chg.setCell (S:=fun k=>k=rb) (Chg.refl _ _) (fun _=>rfl) _
     have hz8:=hcw8.size
     refine ⟨((hcw8.trans kA (fun _ _ e=>e.elim)).trans k9 (fun i _ e=>.inr (.inr e))).trans k10 (fun i _ e=>.inl e),fun k hk=>?_⟩
     rcases hk with hk|hk|hk
     ·exact .inl (.inl hk)
     ·rcases hvI2 k hk with x|x
      ·exact .inl (.inr (.inl x))
      ·exact .inr x
     ·rcases ha.own with x|x
      ·exact .inl (.inr (.inr (x▸hk)))
      ·rw [x] at hk
       injection hk with hk
       have hzA:=kA.size
       exact .inr (by omega)
   have c25:W5.cell? ⟨rb,2,none⟩=some vI:=by simp [World.cell?,hat5]
   have hc83:W8.cell? ⟨rb,3,none⟩=some vL:=by simp [World.cell?,hat8]
   have hcA3:WA.cell? ⟨rb,3,none⟩=some vL:=by have:=hkA.heap hat8 (fun e=>e);simp [World.cell?,this]
   have hxm8:=hbx8.cell
   have HIV:=Lib.hid (HH.out.ids.slice)
   have HLV:=Lib.hid (hrow8.len)
   have HHRUN:=Lib.hid hrun
   have HW5:=Lib.hid hW5
   have HW6:=Lib.hid hW6
   have HW8:=Lib.hid hW8
   have HWA:=Lib.hid hWA
   have HAP:=Lib.hid hap
   have HFIN:=Lib.hid hfin
   clear hB2 hW5 hk5 hbs2 r1 r2 r3 r4 hat5 hown5 hrow5 hW6 hk6 hrun ho7 hg7 hn7 hln hk7 hat7 hrow7 hz5 hz6 hz7 hnI hW8 hk8 hat8 hnrb hown8 hrow8 hbx4 hlx hbx8 hcw8 hz4 hvI hvI2 hlt8 hWA hkA hap hfin hbs1
   go_upto_region 7 with fail
   rw [←HW5.out]
   obtain ⟨ja,jc,hjv⟩:=HIV.out
   obtain ⟨jn,hjn⟩:∃ jn,jn=ids.length:=⟨_,rfl⟩
   rw [←hjn] at hjv
   subst hjv
   clear hjn
   go_wp2_with (at_builtin;rw [←HW6.out];refine Lib.wpList_append_run _ rfl _ _ _ _ rfl _ _ rfl rfl _ _ HHRUN.out ?_)
   go_upto_region 8 with fail
   rw [←HW8.out]
   rename_i Kc hc
   refine region_ph (n:=66) 12 [6,7,10] rfl rfl (by kernel_rfl) (by kernel_rfl) (by kernel_rfl) (fun i u=>match i with|0=>u = .pointer (some ⟨rb,0,none⟩)|1=>u = .pointer (some ⟨rb,0,none⟩)|2=>u = .pointer (some ⟨rb,0,none⟩)|3=>u = .pointer (some ⟨rb,3,none⟩)|4=>u=vL|5=>u = .agg #[.int .i64 m1,.int .i64 m2,.int .i64 m3,.int .i64 m4,.int .i64 m5,.int .i64 m6,.string m7,.string m8,.string m9,.slice ka kl kc]|6=>u = .slice (some ⟨W8.heap.size,0,none⟩) 1 1|8=>u = .pointer (some ⟨rb,0,none⟩)|9=>u = .pointer (some ⟨rb,3,none⟩)|_=>True)
    (fun p fr w'=>match p with|0=>W8.drew=w'|1=>WA.drew=w'|2=>AppM WA.drew vL Ms ((⟨m1,m2,m3,m4,m5,m6,m7,m8,m9,m10⟩:MsgM),.slice ka kl kc) (fr 62) w'|_=>∃ w1 v',AppM WA.drew vL Ms ((⟨m1,m2,m3,m4,m5,m6,m7,m8,m9,m10⟩:MsgM),.slice ka kl kc) v' w1∧w1.setCell ⟨rb,3,none⟩ v'=w') ?_ ?_ ?_
   ·exact rfl
   ·simp only [AllAt]
    refine ⟨?_,?_,?_,?_,?_,?_,?_,?_,?_,?_,?_,trivial⟩
    ·refine StepPh.reg rfl (by decide) (fun d hd=>by cases hd;decide) ?_
     intro fr w' p hG hup hdn hfr hp K hK
     have g0:fr 0 = .pointer (some ⟨rb,0,none⟩):=hfr 0 (by kernel_rfl)
     clear hfr hp hup hdn
     go_simp
     exact hK _ _ rfl hG
    ·refine StepPh.reg rfl (by decide) (fun d hd=>by cases hd;decide) ?_
     intro fr w' p hG hup hdn hfr hp K hK
     have g0:fr 0 = .pointer (some ⟨rb,0,none⟩):=hfr 0 (by kernel_rfl)
     clear hfr hp hup hdn
     go_simp
     exact hK _ _ rfl hG
    ·refine StepPh.reg rfl (by decide) (fun d hd=>by cases hd;decide) ?_
     intro fr w' p hG hup hdn hfr hp K hK
     have g56:fr 56 = .pointer (some ⟨rb,0,none⟩):=hp 1 _ 56 rfl rfl (by kernel_rfl)
     clear hfr hp hup hdn
     go_simp
     exact hK _ _ rfl hG
    ·refine StepPh.reg rfl (by decide) (fun d hd=>by cases hd;decide) ?_
     intro fr w' p hG hup hdn hfr hp K hK
     have g57:fr 57 = .pointer (some ⟨rb,0,none⟩):=hp 2 _ 57 rfl rfl (by kernel_rfl)
     clear hfr hp hup hdn
     go_simp
     exact hK _ _ rfl hG
    ·refine StepPh.reg rfl (by decide) (fun d hd=>by cases hd;decide) ?_
     intro fr w' p hG hup hdn hfr hp K hK
     have g58:fr 58 = .pointer (some ⟨rb,3,none⟩):=hp 3 _ 58 rfl rfl (by kernel_rfl)
     have hpp:p=0∨p=1:=by have:=hdn 1 (by decide) (.inl (by kernel_rfl));omega
     clear hfr hp hup hdn
     rcases hpp with rfl|rfl
     ·have hGe:W8.drew=w':=hG
      subst hGe
      go_simp
      exact hK _ _ rfl hG
     ·have hGe:WA.drew=w':=hG
      subst hGe
      go_simp
      exact hK _ _ rfl hG
    ·refine StepPh.reg rfl (by decide) (fun d hd=>by cases hd;decide) ?_
     intro fr w' p hG hup hdn hfr hp K hK
     have g3:fr 3 = .pointer (some ⟨xb,0,none⟩):=hfr 3 (by kernel_rfl)
     have hpp:p=0:=by have:=hdn 0 (by decide) (.inl (by kernel_rfl));omega
     clear hfr hp hup hdn
     subst hpp
     have hGe:W8.drew=w':=hG
     subst hGe
     go_simp
     exact hK _ _ rfl hG
    ·refine StepPh.wr 0 rfl (by decide) rfl (fun d hd=>by cases hd;decide) (fun j hj=>by omega) ?_
     intro fr w' hG hfr hp K hK
     have g60:fr 60 = .agg #[.int .i64 m1,.int .i64 m2,.int .i64 m3,.int .i64 m4,.int .i64 m5,.int .i64 m6,.string m7,.string m8,.string m9,.slice ka kl kc]:=hp 5 _ 60 rfl rfl (by kernel_rfl)
     clear hfr hp
     have hGe:W8.drew=w':=hG
     subst hGe
     go_simp
     exact hK _ _ (fun _=>rfl) (by show WA.drew=_;rw [HWA.out])
    ·refine StepPh.wr 1 rfl (by decide) rfl (fun d hd=>by cases hd;decide) (fun j hj=>by (obtain rfl:j=0:=(by omega));kernel_rfl) ?_
     intro fr w' hG hfr hp K hK
     have g59:fr 59=vL:=hp 4 _ 59 rfl rfl (by kernel_rfl)
     have g61:fr 61 = .slice (some ⟨W8.heap.size,0,none⟩) 1 1:=hp 6 _ 61 rfl rfl (by kernel_rfl)
     clear hfr hp
     have hGe:WA.drew=w':=hG
     subst hGe
     obtain ⟨v',w2',hrun,hap⟩:=HAP.out 22
     unfold Oper.wp
     simp [execOp,resolve,invoke,builtin,fr_eval,g59,g61,hrun,Result.andThen]
     exact hK _ _ (fun _=>trivial) hap
    ·refine StepPh.reg rfl (by decide) (fun d hd=>by cases hd;decide) ?_
     intro fr w' p hG hup hdn hfr hp K hK
     have g55:fr 55 = .pointer (some ⟨rb,0,none⟩):=hp 0 _ 55 rfl rfl (by kernel_rfl)
     clear hfr hp hup hdn
     go_simp
     exact hK _ _ rfl hG
    ·refine StepPh.reg rfl (by decide) (fun d hd=>by cases hd;decide) ?_
     intro fr w' p hG hup hdn hfr hp K hK
     have g63:fr 63 = .pointer (some ⟨rb,0,none⟩):=hp 8 _ 63 rfl rfl (by kernel_rfl)
     clear hfr hp hup hdn
     go_simp
     exact hK _ _ rfl hG
    ·refine StepPh.wr 2 rfl (by decide) rfl (fun d hd=>by cases hd) (fun j hj=>by rcases (by omega:j=0∨j=1) with rfl|rfl<;>kernel_rfl) ?_
     intro fr w' hG hfr hp K hK
     have g64:fr 64 = .pointer (some ⟨rb,3,none⟩):=hp 9 _ 64 rfl rfl (by kernel_rfl)
     clear hfr hp
     have hG1:AppM WA.drew vL Ms ((⟨m1,m2,m3,m4,m5,m6,m7,m8,m9,m10⟩:MsgM),.slice ka kl kc) (fr 62) w':=hG
     have ht7:=(HFIN.out _ _ hG1).1
     obtain ⟨p',c',g62⟩:=hG1.row.len
     have hcell:w'.cell? ⟨rb,3,none⟩=some vL:=by simp [World.cell?,ht7]
     have hfz:w'.frozen? ⟨rb,3,none⟩=false:=by simp [World.frozen?,ht7]
     obtain ⟨la,lc,hlv⟩:=HLV.out
     obtain ⟨ln,hln⟩:∃ ln,ln=Ms.length:=⟨_,rfl⟩
     rw [←hln] at hlv
     rw [hlv] at hcell
     obtain ⟨vn,hvn⟩:∃ vn,vn=(Ms ++ [((⟨m1,m2,m3,m4,m5,m6,m7,m8,m9,m10⟩:MsgM),Value.slice ka kl kc)]).length:=⟨_,rfl⟩
     rw [←hvn] at g62
     rw [g62] at hG1
     clear hvn ht7 hln
     go_simp
     exact hK undef _ (fun h=>by cases h) ⟨w',_,hG1,by simp⟩
   ·intro fr w7' hG hfr hR
    refine hc _ _ ?_
    clear hR
    obtain ⟨wp,v',hP,rfl⟩:=hG
    have hback:=fr_back (n:=66) (f:=fr) (D:=[55,56,57,58,59,60,61,62,63,64]) rfl (by kernel_rfl) hfr
    rw [hback]
    simp only [mixL,List.elem_eq_contains,List.contains_cons,List.contains_nil,Nat.reduceBEq,Nat.reduceAdd,Bool.or_false,Bool.or_true,Bool.false_or,Bool.true_or,cond_false,cond_true,Bool.or_self,Nat.zero_add]
    clear hback hfr
    have hF:=(HFIN.out v' wp hP).2
    have HF:=Lib.hid hF
    clear hF
    generalize wp.setCell ⟨rb,3,none⟩ v'=WE at *
    go_wp2_with fail
    exact HF.out
end Go.Proofs.YtnemlgfldfedpaaGreatDoor
namespace Go.Proofs.YtnemlgfldfedpaaGreatDoor
open Go.RowKit Go.Deep
theorem TapeG.off {w0 w w':World} {tb:Nat} {t:TapeM} {g:Gh} {st:St} {m:RowM} {S:Nat→Prop} (h:TapeG w0 w tb t g st m) (hc:Chg S w w') (hS:∀ q,S q→q∉t.foot tb∧q≠t.rb∧q∉g.fp∧w0.heap.size≤q):TapeG w0 w' tb t g st m:=
 ⟨h.row.apart hc (fun q hq=>⟨(hS q hq).2.1,(hS q hq).2.2.1,(hS q hq).2.2.2⟩),h.tape.chg hc (fun q hq hx=>(hS q hx).1 hq),h.out⟩
def Off (tb:Nat) (t:TapeM) (g:Gh) (q:Nat):Prop:=q∉t.foot tb∧q≠t.rb∧q∉g.fp
theorem lowN_zero {ids:List Int} (h:∀ x∈ids,0≤x):lowN ids 0=0:=by
 unfold lowN
 rw [List.countP_eq_zero]
 intro x hx
 have:=h x hx
 simp
 exact this
theorem ints_of_row {w:World} {base:Nat} {v:Value} {l:List Int} (h:w.ownsRow base 3 1 v l.length (l.map (Value.int .i64))):Ints w v l:=by
 rcases h.2 with ⟨rfl,h0⟩|⟨g,cap,cur,rfl,hbase,hb,h1,h2,h3,h4⟩
 ·obtain rfl:l=[]:=List.length_eq_zero_iff.1 h0
  exact ⟨none,0,rfl,.inl rfl⟩
 ·refine ⟨_,_,rfl,.inr ⟨g,0,rfl,fun j hj=>?_⟩⟩
  have e1:(cur.toList.take (l.length*1))[j]? = (l.map (Value.int .i64))[j]?:=by rw [h4]
  rw [List.getElem?_take,if_pos (by omega),Array.getElem?_toList,List.getElem?_map,List.getElem?_eq_getElem hj] at e1
  rw [Nat.zero_add,List.getD_eq_getElem?_getD,List.getElem?_eq_getElem hj]
  simp only [World.cell?,hb]
  exact e1
theorem keys_few {M:MsgM} {bs:List UInt8} (h:putO M=some bs) (hk:M.kind≠0):M.keys.length≤10000:=by
 have:=(right_bd (put_get h []).2.2.2.2 hk).many
 omega
def recI (l:List (MsgM×List UInt8)):List MsgM:=l.flatMap fun x=>if x.1.kind == 0 then [] else [x.1]
theorem recI_app (l l':List (MsgM×List UInt8)):recI (l ++ l')=recI l ++ recI l':=by simp [recI]
theorem recI_len (p:Nat) (l:List (MsgM×List UInt8)):(recI l).length=(notesI p l).length:=by
 induction l generalizing p with
 | nil=>rfl
 | cons x l ih=>
  rw [show recI (x :: l)=(if x.1.kind == 0 then [] else [x.1]) ++ recI l from by simp [recI]]
  unfold notesI
  rw [List.length_append,List.length_append,ih (p+x.2.length)]
  split<;>rfl
theorem notesI_nth {p:Nat} {l:List (MsgM×List UInt8)} {k:Nat} (hk:k<(notesI p l).length):∃ q1 M bs q2,l=q1 ++ (M,bs) :: q2∧M.kind≠0∧(notesI p l)[k]? = some (((p+(bytesI q1).length:Nat):Int),(bs.length:Int),M.born)∧(recI l)[k]? = some M:=by
 induction l generalizing p k with
 | nil=>simp [notesI] at hk
 | cons x l ih=>
  have er:recI (x :: l)=(if x.1.kind == 0 then [] else [x.1]) ++ recI l:=by simp [recI]
  have en:notesI p (x :: l)=(if x.1.kind == 0 then [] else [((p:Int),(x.2.length:Int),x.1.born)]) ++ notesI (p+x.2.length) l:=rfl
  rw [en] at hk ⊢
  rw [er]
  by_cases hx:(x.1.kind == 0)=true
  ·rw [if_pos hx] at hk ⊢
   rw [if_pos hx]
   obtain ⟨q1,M,bs,q2,e1,e2,e3,e4⟩:=ih (p:=p+x.2.length) (k:=k) (by simpa using hk)
   refine ⟨x :: q1,M,bs,q2,by rw [e1];rfl,e2,?_,by simpa using e4⟩
   rw [bytesI_cons,List.length_append,←Nat.add_assoc]
   simpa using e3
  ·rw [if_neg hx] at hk ⊢
   rw [if_neg hx]
   cases k with
   | zero=>exact ⟨[],x.1,x.2,l,rfl,by simpa using hx,by simp [bytesI],by simp⟩
   | succ k=>
    obtain ⟨q1,M,bs,q2,e1,e2,e3,e4⟩:=ih (p:=p+x.2.length) (k:=k) (by simpa using hk)
    refine ⟨x :: q1,M,bs,q2,by rw [e1];rfl,e2,?_,by simpa using e4⟩
    rw [bytesI_cons,List.length_append,←Nat.add_assoc]
    simpa using e3
end Go.Proofs.YtnemlgfldfedpaaGreatDoor
