/- A part. -/
import Derived.Test.YtnemlgfldfedpaaGreatDoorTcr42
set_option linter.unusedVariables false
set_option linter.unusedSimpArgs false
namespace Go.Proofs.YtnemlgfldfedpaaGreatDoor
open Go.RowKit Go.Deep
def Held (m:RowM) (st:St):Prop:=(m.end_=m.next→burnE st=0)∧burnE (ps m st)=0
def WroteS (m:RowM) (st:St) (F S:ByteArray) (m':RowM) (st':St):Prop:=
 (F.size=0∧Held m st∧m'=appM m S.size∧st'=appS m st S) ∨
 (F.size≠0∧Held m st∧Held (appM m F.size) (appS m st F)∧m'=appM (appM m F.size) S.size∧st'=appS (appM m F.size) (appS m st F) S)
def FellS (m:RowM) (st:St) (F:ByteArray) (st':St):Prop:=
 DownS m st st'∨(F.size≠0∧Held m st∧DownS (appM m F.size) (appS m st F) st')
def AppGenU (w0 w:World) (tb:Nat) (t:TapeM) (g:Gh) (st:St) (m:RowM) (i0:Nat) (all:List UInt8) (M:MsgM) (vk:Value) (F S:ByteArray) (E:Int):Prop:=
 (E=1∧F.size=0∧S.size=0∧Calls Tryz.prog 11 #[.pointer (some ⟨tb,0,none⟩),M.val vk] w (Adds (.tuple #[.int .i64 0,.int .i64 1]) w)) ∨
 (E=0∧3≤S.size∧S.size≤327∧F.size≤1024∧(1024*i0+all.length+F.size) % 1024+S.size≤1024∧(all.length+F.size+S.size) % 1024≤1021∧(F.size=0∧S.size≤roomT i0 all∨F.size=roomT i0 all)∧(∃ bs,putO M=some bs∧S=⟨bs.toArray⟩∧M.kind≠0∧F=⟨(tfill (roomT i0 all) bs.length).toArray⟩) ∧
  Calls Tryz.prog 11 #[.pointer (some ⟨tb,0,none⟩),M.val vk] w fun e w'=>
   (e = .returned (.tuple #[.int .i64 ((1024*i0+all.length+F.size:Nat):Int),.int .i64 0])∧∃ m' st',WroteS m st F S m' st'∧TAppU w0 w tb t g m' st' ((1024*i0+all.length+F.size:Nat):Int) S.size M.born w') ∨
   ∃ st',FellS m st F st'∧TAppD w0 w t tb g st' e w')
theorem app_gen_u {w0 w:World} {tb:Nat} {t:TapeM} {g:Gh} {st:St} {m:RowM} {n i0 j:Nat} {all:List UInt8} (h:TapeG w0 w tb t g st m) (hk:RowU n m st 1024 i0 j all) (hh:m.head=tH) (M:MsgM) (vk:Value) (hks:Strs w 0 vk M.keys) (hcap:CapOk vk) (hs:Sound M)
 (hok:all.length % 1024≤1021) (hsz:st.size+1351≤st.cap) (hn:n≤900) (hal:1024*i0+all.length≤10000000) (hml:t.M.length≤1000000) (hil:t.ids.length≤1000000) :
 ∃ F S E,laidF (roomT i0 all) M=(F,S,E)∧AppGenU w0 w tb t g st m i0 all M vk F S E:=by
 have e1:=hk.c.row.e1
 have e2:=hk.c.row.e2
 have g1:=hk.up.good.size
 have g2:=hk.up.good.cap
 have g3:=hk.up.good.len
 have hr:roomT i0 all=1024 - all.length % 1024:=by unfold roomT;omega
 rcases laid_cases (roomT i0 all) M with hl|⟨bs,hkd,hp,hl⟩
 ·exact ⟨_,_,_,hl,.inl ⟨rfl,rfl,rfl,tapp_arg h hk.c.roomOk M vk hks hcap hs hl⟩⟩
 ·obtain ⟨l3,l327⟩:=putO_len hkd hp
  have hS:(⟨bs.toArray⟩:ByteArray).size=bs.length:=sizeL bs
  refine ⟨_,_,_,hl,.inr ⟨rfl,by rw [hS];omega,by rw [hS];omega,?_⟩⟩
  by_cases hf:roomT i0 all=bs.length∨bs.length+3≤roomT i0 all
  ·have ht:tfill (roomT i0 all) bs.length=[]:=by unfold tfill;rw [if_pos hf]
   rw [ht] at hl ⊢
   have h0:(⟨([]:List UInt8).toArray⟩:ByteArray).size=0:=rfl
   have hA:=tapp_plain_u h hk M vk hks hcap hs (S:=⟨bs.toArray⟩) hl g1 g2 (by omega) (refuse_plain (by rw [hS];omega)) hn (by omega) (by rw [hS];omega) (by rw [hS];rcases hf with x|x<;>omega) hml hil
   refine ⟨by rw [h0];omega,by rw [h0,hS];rcases hf with x|x<;>omega,by rw [h0,hS];rcases hf with x|x<;>omega,.inl ⟨h0,by rw [hS];rcases hf with x|x<;>omega⟩,⟨bs,hp,rfl,hkd,by rw [ht]⟩,?_⟩
   rw [h0,Nat.add_zero]
   refine hA.mono ?_
   rintro e w' (⟨x,b1,b2,y⟩|⟨st',x,y⟩)
   ·exact .inl ⟨x,_,_,.inl ⟨h0,⟨b1,b2⟩,rfl,rfl⟩,y⟩
   ·exact .inr ⟨st',.inl x,y⟩
  ·have hf2:¬ roomT i0 all=bs.length∧¬ bs.length+3≤roomT i0 all:=⟨fun x=>hf (.inl x),fun x=>hf (.inr x)⟩
   have ht:tfill (roomT i0 all) bs.length=fillB (roomT i0 all):=by unfold tfill;rw [if_neg hf,if_pos (by omega)]
   have hF:(⟨(tfill (roomT i0 all) bs.length).toArray⟩:ByteArray).size=roomT i0 all:=by rw [sizeL,ht,fillB_length _ (by omega)]
   have hseg:1024*i0+all.length+roomT i0 all=1024*(i0+all.length / 1024+1):=by rw [hr];omega
   have htt:=hk.c.tight
   have hjj:j≤i0+all.length / 1024+1:=by
    by_cases hx:i0+1<j
    ·have:=htt hx;omega
    ·omega
   have hrf:refuseE st (1024*i0+all.length) ⟨(tfill (roomT i0 all) bs.length).toArray⟩ ⟨bs.toArray⟩=0:=by
    unfold refuseE
    rw [if_neg (by rw [hF,hS];omega)]
    split
    ·rfl
    ·rw [hF,hseg]
     exact block_free hk.c hh _ hjj (by omega)
   have hA:=tapp_fill_u h hk M vk hks hcap hs hl hF g1 g2 (by omega) hrf hn (by omega) (by rw [hS];omega) (by rw [hS];omega) hml hil
   have hsum:1024*i0+(all ++ (⟨(tfill (roomT i0 all) bs.length).toArray⟩:ByteArray).data.toList).length=1024*i0+all.length+(⟨(tfill (roomT i0 all) bs.length).toArray⟩:ByteArray).size:=by
    rw [List.length_append,size_toList];omega
   rw [hsum] at hA
   have hm0:(1024*i0+all.length+(⟨(tfill (roomT i0 all) bs.length).toArray⟩:ByteArray).size) % 1024=0:=by rw [hF,hseg];omega
   have hF0:(⟨(tfill (roomT i0 all) bs.length).toArray⟩:ByteArray).size≠0:=by rw [hF,hr];omega
   refine ⟨by rw [hF,hr];omega,by rw [hm0,hS];omega,?_,.inr hF,⟨bs,hp,rfl,hkd,rfl⟩,?_⟩
   ·rw [hS]
    omega
   ·refine hA.mono ?_
    rintro e w' (⟨x,b1,b2,y⟩|⟨st',x,y⟩|⟨b1,st',x,y⟩)
    ·exact .inl ⟨x,_,_,.inr ⟨hF0,b1,b2,rfl,rfl⟩,y⟩
    ·exact .inr ⟨st',.inl x,y⟩
    ·exact .inr ⟨st',.inr ⟨hF0,b1,x⟩,y⟩
set_option maxHeartbeats 4000000 in
set_option maxRecDepth 100000 in
theorem tread_ok {w0 w:World} {tb:Nat} {t:TapeM} {g:Gh} {st:St} {m:RowM} {n i0 j:Nat} {all:List UInt8} (h:TapeG w0 w tb t g st m) (hk:RowC n m st 1024 i0 j all) (id:Nat) (hid:id≤9000000000) (M:MsgM) (bs:List UInt8) (hp:putO M=some bs) (h1:1024*i0≤id) (h2:id+bs.length≤1024*i0+all.length) (h3:id % 1024+bs.length≤1024)
 (hb:(all.drop (id - 1024*i0)).take bs.length=bs) (hg:(getK t.M (id:Int)).getD 0=(bs.length:Int)) :
 Calls Tryz.prog 19 #[.pointer (some ⟨tb,0,none⟩),.int .i64 id] w (ReadTo M 0 w):=by
 obtain ⟨hgt,l3,l1100,_,_⟩:=put_get hp []
 rw [List.append_nil] at hgt
 obtain ⟨W0,hW0⟩:∃ W,W=w.alloc (.cells #[.int .i64 0,.int .i64 0,.int .i64 0,.int .i64 0,.int .i64 0,.int .i64 0,.string ⟨#[]⟩,.string ⟨#[]⟩,.string ⟨#[]⟩,.slice none 0 0] 30):=⟨_,rfl⟩
 have hb0:Box W0 w.heap.size zc:=hW0▸box_zero w
 have hl0:Below w.heap.size w W0:=hW0▸(Below.refl _ _).alloc (Nat.le_refl _) _
 have hT0:=h.new (Chg.of_below (S:=fun _=>False) hl0)
 have HB:=Lib.hid (tbegin_any hT0)
 have hS:=tsize_any hT0.tape (id:Int) (twf_nat id (by omega))
 obtain ⟨L,hL⟩:∃ L,L=bs.length:=⟨_,rfl⟩
 rw [hg,←hL] at hS
 have HS:=Lib.hid hS
 have hRd:=c_read_in hT0.row hk id bs.length (by omega) h1 h2 (by omega)
 rw [hb,←hL] at hRd
 have HR:=Lib.hid hRd
 have HGet:Hid (∀ W,Below W0.heap.size W0 W→Calls Tryz.prog 45 #[.pointer (some ⟨t.cb,0,none⟩),.string ⟨bs.toArray⟩] W (GetTo M L 0 W)):=Lib.hid (fun W hw=>by
  rw [hL]
  exact get_any t.cb ⟨bs.toArray⟩ M bs.length 0 W ((h.new (Chg.of_below (S:=fun _=>False) (hl0.trans (hw.mono hl0.size)))).tape.tab) (by rw [sizeL];omega) hgt)
 obtain ⟨c0,c1,c2,c3,c4,c5,z⟩:=hT0.tape.cell
 have HCL:Hid (∀ W,Below W0.heap.size W0 W→W.cell? ⟨tb,2,none⟩=some (.pointer (some ⟨t.cb,0,none⟩))):=Lib.hid (fun W hw=>(hw.cell (p:=⟨tb,2,none⟩) (World.block_lt_of_cell? _ _ c2)).trans c2)
 have HZ:=Lib.hid hb0
 have HBL:=Lib.hid hl0
 have HW0:=Lib.hid hW0
 obtain ⟨bg,hbg⟩:∃ bg:Nat,bg=1024*i0:=⟨_,rfl⟩
 rw [hk.row.beg,←hbg] at HB
 rw [←hbg] at h1
 have hLp:3≤L:=by omega
 clear c1 c3 c4 c5 z hb0 hl0 hW0 h hk hbg hS hg hRd hT0 hp hb hgt l3 l1100 h2 h3 hL
 go_enter Tryz.func19,Tryz.ntmps19
 go_upto_region 1 with fail
 rw [←HW0.out]
 have hzm:=HZ.out.cell
 have hzf:=HZ.out.free
 simp only [zc] at hzm
 go_wp2_with fail
 refine HB.out.mono ?_
 rintro e w1 ⟨rfl,rfl⟩
 go_wp2_with fail
 refine HS.out.mono ?_
 rintro e w1 ⟨rfl,rfl⟩
 go_wp2_with fail
 refine HR.out.mono ?_
 rintro e w1 ⟨rfl,hb1⟩
 have hcl:=HCL.out w1 hb1
 have HB1:=Lib.hid hb1
 have HZ1:=Lib.hid (HZ.out.below hb1 HZ.out.lt)
 clear hb1 hzm hzf c0 c2
 go_wp2_with fail
 refine (HGet.out w1 HB1.out).mono ?_
 rintro e w2 ⟨vk,rfl,hsv,hcv,hb2⟩
 obtain ⟨m1,m2,m3,m4,m5,m6,m7,m8,m9,m10⟩:=M
 obtain ⟨ka,kc,hvk⟩:=hsv.form
 dsimp only at hvk hsv
 obtain ⟨kl,hkl⟩:∃ l,l=m10.length:=⟨_,rfl⟩
 rw [←hkl] at hvk
 subst hvk
 have HKL:=Lib.hid hkl
 have HSV:=Lib.hid hsv
 have HCV:=Lib.hid hcv
 have HB2:=Lib.hid ((HBL.out.trans (HB1.out.mono HBL.out.size)).trans (hb2.mono (HBL.out.trans (HB1.out.mono HBL.out.size)).size))
 obtain ⟨W3,hW3⟩:∃ W,W=w2.alloc (.cells #[.int .i64 m1,.int .i64 m2,.int .i64 m3,.int .i64 m4,.int .i64 m5,.int .i64 m6,.string m7,.string m8,.string m9,.slice ka kl kc] 30):=⟨_,rfl⟩
 have hb3:Below w2.heap.size w2 W3:=hW3▸(Below.refl _ _).alloc (Nat.le_refl _) _
 have HZ2:Hid (Box W3 w.heap.size zc):=Lib.hid ((HZ1.out.below hb2 HZ1.out.lt).below hb3 (HZ1.out.below hb2 HZ1.out.lt).lt)
 have HX3:Hid (Box W3 w2.heap.size #[.int .i64 m1,.int .i64 m2,.int .i64 m3,.int .i64 m4,.int .i64 m5,.int .i64 m6,.string m7,.string m8,.string m9,.slice ka kl kc]):=Lib.hid (hW3▸Box.new w2 _)
 have HB3:Hid (Below w.heap.size w W3):=Lib.hid (HB2.out.trans (hb3.mono HB2.out.size))
 have HS3:Hid (Strs W3 w1.heap.size (.slice ka kl kc) m10):=Lib.hid (HSV.out.below hb3 (Nat.le_refl _))
 have HW3:=Lib.hid hW3
 clear hkl hsv hcv hb2 hW3 hb3 hcl HZ1
 unfold MsgM.val MsgM.cells
 dsimp only
 go_upto_region 12 with fail
 rw [←HW3.out]
 have hzm:=HZ2.out.cell
 have hzf:=HZ2.out.free
 have hxm:=HX3.out.cell
 simp only [zc] at hzm
 go_wp2_with fail
 have hbx:=box_set10 HZ2.out (.int .i64 m1) (.int .i64 m2) (.int .i64 m3) (.int .i64 m4) (.int .i64 m5) (.int .i64 m6) (.string m7) (.string m8) (.string m9) (.slice ka kl kc)
 have hbl:=below_set10 HB3.out (Nat.le_refl _) (.int .i64 m1) (.int .i64 m2) (.int .i64 m3) (.int .i64 m4) (.int .i64 m5) (.int .i64 m6) (.string m7) (.string m8) (.string m9) (.slice ka kl kc)
 have hst:=strs_set10 (P:=w.heap.size) HS3.out (Nat.lt_of_lt_of_le HZ.out.lt HB1.out.size) (.int .i64 m1) (.int .i64 m2) (.int .i64 m3) (.int .i64 m4) (.int .i64 m5) (.int .i64 m6) (.string m7) (.string m8) (.string m9) (.slice ka kl kc)
 unfold set10 at hbx hbl hst
 have hpm:=Box.cell hbx
 exact bodyPost_ret (v:=.tuple #[(MsgM.mk m1 m2 m3 m4 m5 m6 m7 m8 m9 m10).val (.slice ka kl kc),.int .i64 0]) (by simp [results,Tryz.results19,go_sem,hpm,zc,MsgM.val,MsgM.cells]) rfl ⟨.slice ka kl kc,rfl,strs_low hst (Nat.le_of_lt (Nat.lt_of_lt_of_le HZ.out.lt HB1.out.size)),HCV.out,hbl⟩
def mayB (n:Int):Bool:=n == 0 || decide (3≤n)
def stepT (s:ByteArray) (a:Nat):Option (MsgM×Nat):=
 if (getS (s.extract a s.size)).2.2=0∧mayB (1024 - (a:Int) - (getS (s.extract a s.size)).2.1)=true then some ((getS (s.extract a s.size)).1,(getS (s.extract a s.size)).2.1.toNat) else none
def takeF:Nat→ByteArray→Nat→List (Nat×MsgM×Nat)×Nat
 | 0,_,a=>([],a)
 | f+1,s,a=>if a<s.size then (match stepT s a with
  | none=>([],a)
  | some (m,n)=>((a,m,n) :: (takeF f s (a+n)).1,(takeF f s (a+n)).2)) else ([],a)
theorem get_len {s:ByteArray} {m:MsgM} {n:Int} (h:getS s=(m,n,0)):3≤n∧n≤s.size:=by
 unfold getS at h
 by_cases h1:(lenS s).2≠0
 ·rw [if_pos h1] at h
  injection h with _ h;injection h with _ h
  exact absurd h h1
 ·rw [if_neg h1] at h
  by_cases h2:(openedS (s.extract 0 (lenS s).1.toNat)).2≠0
  ·rw [if_pos h2] at h
   injection h with _ h;injection h with _ h
   exact absurd h h2
  ·rw [if_neg h2] at h
   injection h with _ h;injection h with h _
   have h1':(lenS s).2=0:=Classical.not_not.1 h1
   have:=lenS_ok (s:=s) (n:=n) (by rw [←h,←h1'])
   exact ⟨this.1,this.2.1⟩
theorem step_some {s:ByteArray} {a n:Nat} {m:MsgM} (h:stepT s a=some (m,n)) (ha:a≤s.size):getS (s.extract a s.size)=(m,(n:Int),0)∧3≤n∧a+n≤s.size∧mayB (1024 - (a:Int) - (n:Int))=true:=by
 unfold stepT at h
 split at h
 ·rename_i hc
  injection h with h
  injection h with h1 h2
  obtain ⟨⟨m',n',x'⟩,hg⟩:∃ r,r=getS (s.extract a s.size):=⟨_,rfl⟩
  rw [←hg] at hc h1 h2
  dsimp only at hc h1 h2
  subst h1
  obtain ⟨rfl,hm⟩:=hc
  obtain ⟨k1,k2⟩:=get_len hg.symm
  rw [ByteArray.size_extract] at k2
  have e:n'=(n:Int):=by omega
  subst e
  exact ⟨hg.symm,by omega,by omega,hm⟩
 ·cases h
def notesT (place:Nat) (L:List (Nat×MsgM×Nat)):List (Int×Int×Int):=(L.filter fun x=>!(x.2.1.kind == 0)).map fun x=>(((place+x.1:Nat):Int),(x.2.2:Int),x.2.1.born)
theorem notesT_app (place:Nat) (L L':List (Nat×MsgM×Nat)):notesT place (L ++ L')=notesT place L ++ notesT place L':=by
 unfold notesT;rw [List.filter_append,List.map_append]
theorem notesT_len (place:Nat) (L:List (Nat×MsgM×Nat)):(notesT place L).length≤L.length:=by
 unfold notesT;rw [List.length_map];exact List.length_filter_le ..
def TapeM.noteL (t:TapeM) (v:Value) (l:List (Int×Int×Int)):TapeM:=
 { t with v:=v,ids:=t.ids ++ l.map (·.1),last:=(l.getLast?.map (·.2.2)).getD t.last,M:=l.foldl (fun M x=>dropK M x.1 ++ [(x.1,x.2.1)]) t.M }
theorem noteL_nil (t:TapeM):t.noteL t.v []=t:=by simp [TapeM.noteL]
theorem noteL_snoc (t:TapeM) (v v':Value) (l:List (Int×Int×Int)) (id size born:Int):(t.noteL v l).noted v' id size born=t.noteL v' (l ++ [(id,size,born)]):=by
 simp [TapeM.noteL,TapeM.noted,List.foldl_append,List.append_assoc]
theorem noteL_app (t:TapeM) (v v':Value) (l l':List (Int×Int×Int)):(t.noteL v l).noteL v' l'=t.noteL v' (l ++ l'):=by
 simp only [TapeM.noteL,List.map_append,List.foldl_append,List.append_assoc]
 congr 1
 rcases List.eq_nil_or_concat l' with rfl|⟨l2,x,rfl⟩
 ·simp
 ·simp [←List.append_assoc]
theorem noteL_len (t:TapeM) (v:Value) (l:List (Int×Int×Int)):(t.noteL v l).M.length≤t.M.length+l.length∧(t.noteL v l).ids.length=t.ids.length+l.length:=by
 constructor
 ·show (l.foldl (fun M x=>dropK M x.1 ++ [(x.1,x.2.1)]) t.M).length≤_
  generalize t.M=M0
  induction l generalizing M0 with
  | nil=>exact Nat.le_refl _
  | cons x l ih=>
   rw [List.foldl_cons]
   refine Nat.le_trans (ih _) ?_
   rw [List.length_append,List.length_singleton,List.length_cons]
   have:(dropK M0 x.1).length≤M0.length:=List.length_filter_le ..
   omega
 ·simp [TapeM.noteL]
theorem below_chg' {w w':World} (h:Below w.heap.size w w'):Chg (fun _=>False) w w':=Chg.of_below h
structure TkI (w0 w wr:World) (tb:Nat) (t:TapeM) (g:Gh) (st:St) (m:RowM) (place:Nat) (s:ByteArray) (a f:Nat) (L:List (Nat×MsgM×Nat)) (v:Value):Prop where
 tg:TapeG w0 wr tb (t.noteL v (notesT place L)) g st m
 chg:Chg (fun q=>q∈t.foot tb) w wr
 foot:∀ q∈(t.noteL v (notesT place L)).foot tb,q∈t.foot tb∨w.heap.size≤q
 len:L.length≤a
 le_:a≤s.size
 fuel:s.size<a+f
 eq:takeF (s.size+1) s 0=(L ++ (takeF f s a).1,(takeF f s a).2)
theorem TkI.new {w0 w wr wx:World} {tb:Nat} {t:TapeM} {g:Gh} {st:St} {m:RowM} {place:Nat} {s:ByteArray} {a f:Nat} {L:List (Nat×MsgM×Nat)} {v:Value} (h:TkI w0 w wr tb t g st m place s a f L v) (hc:Chg (fun _=>False) wr wx):TkI w0 w wx tb t g st m place s a f L v:=
 { h with tg:=h.tg.new hc,chg:=h.chg.trans hc (fun i _ x=>x.elim)}
def TTakeTo (w0 w:World) (tb:Nat) (t:TapeM) (g:Gh) (st:St) (m:RowM) (place:Nat) (s:ByteArray) (e:Ending) (w':World):Prop:=
 e = .returned (.int .i64 ((takeF (s.size+1) s 0).2:Nat))∧∃ v',TapeG w0 w' tb (t.noteL v' (notesT place (takeF (s.size+1) s 0).1)) g st m∧Chg (fun q=>q∈t.foot tb) w w'∧∀ q∈(t.noteL v' (notesT place (takeF (s.size+1) s 0).1)).foot tb,q∈t.foot tb∨w.heap.size≤q
theorem TkI.done {w0 w wr:World} {tb:Nat} {t:TapeM} {g:Gh} {st:St} {m:RowM} {place:Nat} {s:ByteArray} {a f:Nat} {L:List (Nat×MsgM×Nat)} {v:Value} (h:TkI w0 w wr tb t g st m place s a f L v) (hd:takeF f s a=([],a)):TTakeTo w0 w tb t g st m place s (.returned (.int .i64 (a:Int))) wr:=by
 have he:=h.eq
 rw [hd,List.append_nil] at he
 unfold TTakeTo
 rw [he]
 exact ⟨rfl,v,h.tg,h.chg,h.foot⟩
theorem take_step {f a n:Nat} {s:ByteArray} {M:MsgM} (hlt:a<s.size) (hs:stepT s a=some (M,n)):takeF (f+1) s a=((a,M,n) :: (takeF f s (a+n)).1,(takeF f s (a+n)).2):=by
 show (if a<s.size then _ else _)=_
 rw [if_pos hlt,hs]
theorem take_stop {f a:Nat} {s:ByteArray} (h:s.size≤a∨stepT s a=none):takeF f s a=([],a):=by
 cases f with
 | zero=>rfl
 | succ f=>
  show (if a<s.size then _ else _)=_
  by_cases hlt:a<s.size
  ·rw [if_pos hlt]
   rcases h with h|h
   ·omega
   ·rw [h]
  ·rw [if_neg hlt]
theorem TkI.skip {w0 w wr:World} {tb:Nat} {t:TapeM} {g:Gh} {st:St} {m:RowM} {place:Nat} {s:ByteArray} {a f n:Nat} {L:List (Nat×MsgM×Nat)} {v:Value} {M:MsgM} (h:TkI w0 w wr tb t g st m place s a (f+1) L v) (hlt:a<s.size) (hs:stepT s a=some (M,n)) (hk:M.kind=0):TkI w0 w wr tb t g st m place s (a+n) f (L ++ [(a,M,n)]) v:=by
 obtain ⟨_,h3,h4,_⟩:=step_some hs h.le_
 have hn:notesT place (L ++ [(a,M,n)])=notesT place L:=by
  rw [notesT_app]
  have:notesT place [(a,M,n)]=[]:=by simp [notesT,hk]
  rw [this,List.append_nil]
 have hl:=h.len
 have hfu:=h.fuel
 refine ⟨by rw [hn];exact h.tg,h.chg,by rw [hn];exact h.foot,by rw [List.length_append,List.length_singleton];omega,h4,by omega,?_⟩
 have he:=h.eq
 rw [take_step hlt hs] at he
 rw [he]
 simp
theorem TkI.note {w0 w wr w':World} {tb:Nat} {t:TapeM} {g:Gh} {st:St} {m:RowM} {place:Nat} {s:ByteArray} {a f n:Nat} {L:List (Nat×MsgM×Nat)} {v:Value} {M:MsgM} {e:Ending} (h:TkI w0 w wr tb t g st m place s a (f+1) L v) (hlt:a<s.size) (hs:stepT s a=some (M,n)) (hk:¬ M.kind=0)
 (hn:NoteTo w0 wr tb g.d (t.noteL v (notesT place L)) ((place+a:Nat):Int) (n:Int) M.born e w'):e = .returned (.tuple #[])∧∃ v',TkI w0 w w' tb t g st m place s (a+n) f (L ++ [(a,M,n)]) v':=by
 obtain ⟨_,h3,h4,_⟩:=step_some hs h.le_
 obtain ⟨rfl,v',hta,hc,hf⟩:=hn
 obtain ⟨_,v2,htg,_⟩:=h.tg.noted (e:=.returned (.tuple #[])) ⟨rfl,v',hta,hc,hf⟩
 have htg':TapeG w0 w' tb ((t.noteL v (notesT place L)).noted v' ((place+a:Nat):Int) (n:Int) M.born) g st m:=⟨h.tg.row.apart hc (fun q hq=>⟨(h.tg.out q hq).1,(h.tg.out q hq).2,h.tg.tape.low q hq⟩),hta,fun q hq=>by
  rcases hf q hq with x|x
  ·exact h.tg.out q x
  ·refine ⟨fun e=>?_,fun hx=>?_⟩
   ·have:=h.tg.row.row.lt
    have e':q=t.rb:=e
    have e2:(t.noteL v (notesT place L)).rb=t.rb:=rfl
    rw [e2] at this
    omega
   ·have:=h.tg.row.disk.lt q hx
    omega⟩
 have hnn:notesT place (L ++ [(a,M,n)])=notesT place L ++ [(((place+a:Nat):Int),(n:Int),M.born)]:=by
  rw [notesT_app]
  congr 1
  simp [notesT,hk]
 have hl:=h.len
 have hfu:=h.fuel
 refine ⟨rfl,v',⟨?_,?_,?_,by rw [List.length_append,List.length_singleton];omega,h4,by omega,?_⟩⟩
 ·rw [hnn,←noteL_snoc t v];exact htg'
 ·refine h.chg.trans hc (fun i hi hx=>?_)
  rcases h.foot i hx with x|x
  ·exact x
  ·omega
 ·intro q hq
  rw [hnn,←noteL_snoc t v] at hq
  rcases hf q hq with x|x
  ·exact h.foot q x
  ·right
   have:=h.chg.size
   omega
 ·have he:=h.eq
  rw [take_step hlt hs] at he
  rw [he]
  simp
set_option maxHeartbeats 4000000 in
set_option maxRecDepth 100000 in
theorem ttake_any {w0 w:World} {tb:Nat} {t:TapeM} {g:Gh} {st:St} {m:RowM} (h:TapeG w0 w tb t g st m) (place:Nat) (hpl:place≤100000000) (s:ByteArray) (hsz:s.size≤4096) (hml:t.M.length≤900000) (hil:t.ids.length≤900000) :
 Calls Tryz.prog 52 #[.pointer (some ⟨tb,0,none⟩),.int .i64 place,.string s] w (TTakeTo w0 w tb t g st m place s):=by
 have HI0:Hid (TkI w0 w w tb t g st m place s 0 (s.size+1) [] t.v):=Lib.hid ⟨by rw [show notesT place []=[] from rfl,noteL_nil];exact h,Chg.refl _ _,fun q hq=>.inl (by rw [show notesT place []=[] from rfl,noteL_nil] at hq;exact hq),Nat.le_refl _,Nat.zero_le _,by omega,by simp⟩
 clear h
 go_enter Tryz.func52,Tryz.ntmps52
 go_wp2_with fail
 go_loopw [7] (fun av wr=>∃ (a f:Nat) (L:List (Nat×MsgM×Nat)) (v:Value),av = .int .i64 a∧TkI w0 w wr tb t g st m place s a f L v) (fun av _=>s.size - (intOf av).toNat)
 case atStart=>exact ⟨0,_,[],t.v,rfl,HI0.out⟩
 case round=>
  obtain ⟨a,f,L,v,rfl,hI⟩:=hrel
  have HI:=Lib.hid hI
  have hle:=hI.le_
  by_cases hlt:a<s.size
  ·obtain ⟨⟨⟨m1,m2,m3,m4,m5,m6,m7,m8,m9,m10⟩,n,x⟩,hg⟩:∃ r,r=getS (s.extract a s.size):=⟨_,rfl⟩
   have hcb:wr.cell? ⟨tb,2,none⟩=some (.pointer (some ⟨t.cb,0,none⟩)):=hI.tg.tape.cell.2.2.1
   have HGET:Hid (∀ W,Below wr.heap.size wr W→Calls Tryz.prog 45 #[.pointer (some ⟨t.cb,0,none⟩),.string (s.extract a s.size)] W (GetTo ⟨m1,m2,m3,m4,m5,m6,m7,m8,m9,m10⟩ n x W)):=Lib.hid (fun W hw=>
    get_any t.cb (s.extract a s.size) ⟨m1,m2,m3,m4,m5,m6,m7,m8,m9,m10⟩ n x W ((hI.tg.new (below_chg' hw)).tape.tab) (by rw [ByteArray.size_extract];omega) hg.symm)
   have HCB:Hid (∀ W,Below wr.heap.size wr W→W.cell? ⟨tb,2,none⟩=some (.pointer (some ⟨t.cb,0,none⟩))):=Lib.hid (fun W hw=>(hw.cell (p:=⟨tb,2,none⟩) (World.block_lt_of_cell? (a:=⟨tb,2,none⟩) (h:=hcb))).trans hcb)
   have HG:=Lib.hid hg
   clear hI hg
   have HB0:Hid (Below wr.heap.size wr wr):=Lib.hid (Below.refl _ _)
   have HBA:Hid (Below wr.heap.size wr (wr.alloc (.cells #[.int .i64 0,.int .i64 0,.int .i64 0,.int .i64 0,.int .i64 0,.int .i64 0,.string ⟨#[]⟩,.string ⟨#[]⟩,.string ⟨#[]⟩,.slice none 0 0] 30))):=Lib.hid ((Below.refl _ _).alloc (Nat.le_refl _) _)
   have HZA:Hid (Box (wr.alloc (.cells #[.int .i64 0,.int .i64 0,.int .i64 0,.int .i64 0,.int .i64 0,.int .i64 0,.string ⟨#[]⟩,.string ⟨#[]⟩,.string ⟨#[]⟩,.slice none 0 0] 30)).drew wr.heap.size zc):=Lib.hid (box_zero wr)
   go_upto_region 3 with fail
   go_cut [8,9,10] (fun v8 v9 v10 wx=>∃ b ka kc,v8 = .pointer (some ⟨b,0,none⟩)∧v9 = .int .i64 n∧v10 = .int .i64 x∧Below wr.heap.size wr wx∧Box wx b #[.int .i64 m1,.int .i64 m2,.int .i64 m3,.int .i64 m4,.int .i64 m5,.int .i64 m6,.string m7,.string m8,.string m9,.slice ka m10.length kc]∧Strs wx 0 (.slice ka m10.length kc) m10)
   case first=>
    go_region_held3 (fun w'=>w'.cell? ⟨tb,2,none⟩=some (.pointer (some ⟨t.cb,0,none⟩)))
     (first|(with_reducible exact hcb)|(with_reducible exact cc)|(with_reducible exact c10)|(with_reducible exact c11)|(with_reducible exact HCB.out _ HBA.out)|(with_reducible exact HCB.out _ HBB.out)|go_keep)
     (first
     | (go_at_call 45
        ((with_reducible refine (HGET.out _ (Below.drew HB0.out)).mono ?_))
        rintro e w2 ⟨vk,rfl,hsv,hcv,hb⟩
        obtain ⟨ka,kc,hvk⟩:=hsv.form
        subst hvk
        have HBB:=Lib.hid ((Below.drew HB0.out).trans (hb.mono (Below.drew HB0.out).size))
        have cc:=HCB.out w2 HBB.out
        have HRES:Hid (Below wr.heap.size wr (w2.alloc (.cells #[.int .i64 m1,.int .i64 m2,.int .i64 m3,.int .i64 m4,.int .i64 m5,.int .i64 m6,.string m7,.string m8,.string m9,.slice ka m10.length kc] 30))∧Box (w2.alloc (.cells #[.int .i64 m1,.int .i64 m2,.int .i64 m3,.int .i64 m4,.int .i64 m5,.int .i64 m6,.string m7,.string m8,.string m9,.slice ka m10.length kc] 30)) w2.heap.size #[.int .i64 m1,.int .i64 m2,.int .i64 m3,.int .i64 m4,.int .i64 m5,.int .i64 m6,.string m7,.string m8,.string m9,.slice ka m10.length kc]∧Strs (w2.alloc (.cells #[.int .i64 m1,.int .i64 m2,.int .i64 m3,.int .i64 m4,.int .i64 m5,.int .i64 m6,.string m7,.string m8,.string m9,.slice ka m10.length kc] 30)) 0 (.slice ka m10.length kc) m10):=Lib.hid ⟨HBB.out.alloc HBB.out.size _,Box.new w2 _,(strs_low hsv (Nat.zero_le _)).below ((Below.refl _ _).alloc (Nat.le_refl _) _) (Nat.le_refl _)⟩
        have c11:=HCB.out _ (HBB.out.alloc HBB.out.size (.cells #[.int .i64 m1,.int .i64 m2,.int .i64 m3,.int .i64 m4,.int .i64 m5,.int .i64 m6,.string m7,.string m8,.string m9,.slice ka m10.length kc] 30))
        clear hsv hcv hb
        unfold MsgM.val MsgM.cells
        dsimp only)
     | (go_at_call 45
        ((with_reducible refine (HGET.out _ (Below.drew HBA.out)).mono ?_))
        rintro e w2 ⟨vk,rfl,hsv,hcv,hb⟩
        obtain ⟨ka,kc,hvk⟩:=hsv.form
        subst hvk
        have HBB:=Lib.hid ((Below.drew HBA.out).trans (hb.mono (Below.drew HBA.out).size))
        have cc:=HCB.out w2 HBB.out
        have HZ2:=Lib.hid (Box.below (b:=wr.heap.size) (cs:=zc) HZA.out hb HZA.out.lt)
        have c10:=HCB.out _ (below_set10 HBB.out (Nat.le_refl _) (.int .i64 m1) (.int .i64 m2) (.int .i64 m3) (.int .i64 m4) (.int .i64 m5) (.int .i64 m6) (.string m7) (.string m8) (.string m9) (.slice ka m10.length kc))
        unfold set10 at c10
        have hzf:=HZ2.out.free
        have hzm:=HZ2.out.cell
        simp only [zc] at hzm
        have hres:Below wr.heap.size wr (set10 w2 wr.heap.size (.int .i64 m1) (.int .i64 m2) (.int .i64 m3) (.int .i64 m4) (.int .i64 m5) (.int .i64 m6) (.string m7) (.string m8) (.string m9) (.slice ka m10.length kc))∧Box (set10 w2 wr.heap.size (.int .i64 m1) (.int .i64 m2) (.int .i64 m3) (.int .i64 m4) (.int .i64 m5) (.int .i64 m6) (.string m7) (.string m8) (.string m9) (.slice ka m10.length kc)) wr.heap.size #[.int .i64 m1,.int .i64 m2,.int .i64 m3,.int .i64 m4,.int .i64 m5,.int .i64 m6,.string m7,.string m8,.string m9,.slice ka m10.length kc]∧Strs (set10 w2 wr.heap.size (.int .i64 m1) (.int .i64 m2) (.int .i64 m3) (.int .i64 m4) (.int .i64 m5) (.int .i64 m6) (.string m7) (.string m8) (.string m9) (.slice ka m10.length kc)) 0 (.slice ka m10.length kc) m10:=⟨below_set10 HBB.out (Nat.le_refl _) (.int .i64 m1) (.int .i64 m2) (.int .i64 m3) (.int .i64 m4) (.int .i64 m5) (.int .i64 m6) (.string m7) (.string m8) (.string m9) (.slice ka m10.length kc),box_set10 HZ2.out (.int .i64 m1) (.int .i64 m2) (.int .i64 m3) (.int .i64 m4) (.int .i64 m5) (.int .i64 m6) (.string m7) (.string m8) (.string m9) (.slice ka m10.length kc),strs_low (strs_set10 hsv HZA.out.lt (.int .i64 m1) (.int .i64 m2) (.int .i64 m3) (.int .i64 m4) (.int .i64 m5) (.int .i64 m6) (.string m7) (.string m8) (.string m9) (.slice ka m10.length kc)) (Nat.zero_le _)⟩
        unfold set10 at hres
        have HRES:=Lib.hid hres
        clear hsv hcv hb hres
        unfold MsgM.val MsgM.cells
        dsimp only))
    all_goals
     go_wp2_with fail
     go_meet
     case rel=>exact ⟨_,_,_,rfl,rfl,rfl,HRES.out⟩
   case rest=>
    obtain ⟨b,ka,kc,rfl,rfl,rfl,hbx,hbox,hst⟩:=hcut
    have HIc:=Lib.hid (HI.out.new (below_chg' hbx))
    have hfu:=HI.out.fuel
    obtain ⟨f',hf'⟩:∃ f',f=f'+1:=⟨f - 1,by omega⟩
    subst hf'
    have hgr:=HG.out
    have hbm:=hbox.cell
    have HBX:=Lib.hid hbox
    have HST:=Lib.hid hst
    obtain ⟨kl,hkl⟩:∃ l,l=m10.length:=⟨_,rfl⟩
    rw [←hkl] at hbm HBX HST
    have HKL:=Lib.hid hkl
    clear hbx hbox hst hcb HGET HCB HB0 HBA HZA HG hkl
    by_cases hx:x=0
    ·subst hx
     obtain ⟨l1,l2⟩:=get_len hgr.symm
     rw [ByteArray.size_extract] at l2
     obtain ⟨nn,hnn⟩:∃ nn:Nat,n=(nn:Int):=⟨n.toNat,by omega⟩
     subst hnn
     obtain ⟨y,hy⟩:∃ y,mayB (1024 - (a:Int) - (nn:Int))=y:=⟨_,rfl⟩
     have HML:Hid (Calls Tryz.prog 68 #[.int .i64 (1024 - (a:Int) - (nn:Int))] wc fun e w'=>e = .returned (.bool y)∧wc=w'):=Lib.hid (hy▸mayLeave_any _ _)
     have hn1:nn≤4096:=by omega
     have ha1:a≤4096:=by omega
     cases y
     ·have hno:stepT s a=none:=by
       unfold stepT
       rw [←hgr]
       rw [if_neg (fun hc=>by rw [hy] at hc;exact absurd hc.2 (by decide))]
      have HD:=Lib.hid (HIc.out.done (take_stop (.inr hno)))
      clear hno hy hgr l1 l2
      go_wp2_with fail
      refine HML.out.mono ?_
      rintro e w3 ⟨rfl,rfl⟩
      go_wp2_with fail
      go_ret
      exact HD.out
     ·have hst:stepT s a=some (⟨m1,m2,m3,m4,m5,m6,m7,m8,m9,m10⟩,nn):=by
       unfold stepT
       rw [←hgr]
       rw [if_pos ⟨rfl,hy⟩]
       rfl
      have HSTP:=Lib.hid hst
      clear hst hy hgr
      have hl4:a+nn≤s.size:=by omega
      by_cases hk:m1=0
      ·subst hk
       have HSK:=Lib.hid (HIc.out.skip hlt HSTP.out rfl)
       go_wp2_with fail
       refine HML.out.mono ?_
       rintro e w3 ⟨rfl,rfl⟩
       go_wp2_with fail
       exact ⟨⟨a+nn,f',_,_,by go_num,HSK.out⟩,by simp [intOf];omega⟩
      ·have hnl:=noteL_len t v (notesT place L)
       have hnt:=notesT_len place L
       have hll:=HIc.out.len
       have hNT:=tnote_any HIc.out.tg.tape (HIc.out.tg.chg.size) ((place+a:Nat):Int) (nn:Int) ⟨m1,m2,m3,m4,m5,m6,m7,m8,m9,m10⟩ (.slice ka kl kc) (twf_nat _ (by omega)) (by omega) (by omega)
       unfold MsgM.val MsgM.cells at hNT
       dsimp only at hNT
       rw [show ((place+a:Nat):Int)=(place:Int)+(a:Int) from by omega] at hNT
       have HNT:=Lib.hid hNT
       clear hNT hnl hnt hll
       go_wp2_with fail
       refine HML.out.mono ?_
       rintro e w3 ⟨rfl,rfl⟩
       go_wp2_with fail
       refine HNT.out.mono ?_
       intro e w4 hto
       rw [show (place:Int)+(a:Int)=((place+a:Nat):Int) from by omega] at hto
       obtain ⟨rfl,v',hI4⟩:=HIc.out.note hlt HSTP.out hk hto
       have HI4:=Lib.hid hI4
       clear hI4 hto
       go_wp2_with fail
       exact ⟨⟨a+nn,f',_,v',by go_num,HI4.out⟩,by simp [intOf];omega⟩
    ·have hno:stepT s a=none:=by
      unfold stepT
      rw [←hgr]
      rw [if_neg (fun hc=>hx hc.1)]
     have HD:=Lib.hid (HIc.out.done (take_stop (.inr hno)))
     clear hno hgr
     go_wp2_with fail
     go_ret
     exact HD.out
  ·have HD:=Lib.hid (HI.out.done (take_stop (.inl (by omega))))
   go_wp2_with fail
   go_ret
   exact HD.out
attribute [local go_sem] fr_opt
def segB (all:List UInt8) (p:Nat):ByteArray:=⟨((all.drop p).take 1024).toArray⟩
theorem segB_size (all:List UInt8) (p:Nat):(segB all p).size=min 1024 (all.length - p):=by
 unfold segB;rw [sizeL,List.length_take,List.length_drop]
def tgathF (i0:Nat) (all:List UInt8):Nat→Nat→List (Int×Int×Int)×Nat
 | 0,p=>([],p)
 | f+1,p=>if p<all.length then
  (if (takeF ((segB all p).size+1) (segB all p) 0).2<(segB all p).size then (notesT (1024*i0+p) (takeF ((segB all p).size+1) (segB all p) 0).1,p+(takeF ((segB all p).size+1) (segB all p) 0).2)
   else (notesT (1024*i0+p) (takeF ((segB all p).size+1) (segB all p) 0).1 ++ (tgathF i0 all f (p+(segB all p).size)).1,(tgathF i0 all f (p+(segB all p).size)).2))
  else ([],p)
theorem take_le (f:Nat) (s:ByteArray) (a:Nat) (h:a≤s.size):(takeF f s a).2≤s.size∧(takeF f s a).1.length+a≤(takeF f s a).2:=by
 induction f generalizing a with
 | zero=>exact ⟨h,by simp [takeF]⟩
 | succ f ih=>
  by_cases hlt:a<s.size
  ·cases hs:stepT s a with
   | none=>rw [take_stop (.inr hs)];exact ⟨h,by simp⟩
   | some r=>
    obtain ⟨M,n⟩:=r
    obtain ⟨_,h3,h4,_⟩:=step_some hs h
    rw [take_step hlt hs]
    have:=ih (a+n) h4
    dsimp only
    rw [List.length_cons]
    omega
  ·rw [take_stop (.inl (by omega))];exact ⟨h,by simp⟩
structure GaI (w0 w wr:World) (tb:Nat) (t:TapeM) (g:Gh) (st:St) (m:RowM) (i0:Nat) (all:List UInt8) (p f:Nat) (N:List (Int×Int×Int)) (v:Value):Prop where
 tg:TapeG w0 wr tb (t.noteL v N) g st m
 chg:Chg (fun q=>q∈t.foot tb) w wr
 foot:∀ q∈(t.noteL v N).foot tb,q∈t.foot tb∨w.heap.size≤q
 len:N.length≤p
 le_:p≤all.length
 fuel:all.length<p+f
 mult:p<all.length→p % 1024=0
 eq:tgathF i0 all (all.length+1) 0=(N ++ (tgathF i0 all f p).1,(tgathF i0 all f p).2)
def GatTo (w0 w:World) (tb:Nat) (t:TapeM) (g:Gh) (st:St) (m:RowM) (i0:Nat) (all:List UInt8) (e:Ending) (w':World):Prop:=
 e = .returned (.tuple #[.int .i64 ((1024*i0+(tgathF i0 all (all.length+1) 0).2:Nat):Int),.int .i64 0])∧∃ v',TapeG w0 w' tb (t.noteL v' (tgathF i0 all (all.length+1) 0).1) g st m∧Chg (fun q=>q∈t.foot tb) w w'∧∀ q∈(t.noteL v' (tgathF i0 all (all.length+1) 0).1).foot tb,q∈t.foot tb∨w.heap.size≤q
theorem tgath_stop {i0 f p:Nat} {all:List UInt8} (h:all.length≤p):tgathF i0 all f p=([],p):=by
 cases f with
 | zero=>rfl
 | succ f=>
  show (if p<all.length then _ else _)=_
  rw [if_neg (by omega)]
theorem tgath_some {i0 f p:Nat} {all:List UInt8} (h:p<all.length):tgathF i0 all (f+1) p=if (takeF ((segB all p).size+1) (segB all p) 0).2<(segB all p).size then (notesT (1024*i0+p) (takeF ((segB all p).size+1) (segB all p) 0).1,p+(takeF ((segB all p).size+1) (segB all p) 0).2)
 else (notesT (1024*i0+p) (takeF ((segB all p).size+1) (segB all p) 0).1 ++ (tgathF i0 all f (p+(segB all p).size)).1,(tgathF i0 all f (p+(segB all p).size)).2):=by
 show (if p<all.length then _ else _)=_
 rw [if_pos h]
theorem GaI.new {w0 w wr wx:World} {tb:Nat} {t:TapeM} {g:Gh} {st:St} {m:RowM} {i0:Nat} {all:List UInt8} {p f:Nat} {N:List (Int×Int×Int)} {v:Value} (h:GaI w0 w wr tb t g st m i0 all p f N v) (hc:Chg (fun _=>False) wr wx):GaI w0 w wx tb t g st m i0 all p f N v:=
 { h with tg:=h.tg.new hc,chg:=h.chg.trans hc (fun i _ x=>x.elim)}
theorem GaI.took {w0 w wr w':World} {tb:Nat} {t:TapeM} {g:Gh} {st:St} {m:RowM} {i0:Nat} {all:List UInt8} {p f:Nat} {N:List (Int×Int×Int)} {v:Value} {e:Ending} (h:GaI w0 w wr tb t g st m i0 all p f N v) (ht:TTakeTo w0 wr tb (t.noteL v N) g st m (1024*i0+p) (segB all p) e w') :
 ∃ v',TapeG w0 w' tb (t.noteL v' (N ++ notesT (1024*i0+p) (takeF ((segB all p).size+1) (segB all p) 0).1)) g st m∧Chg (fun q=>q∈t.foot tb) w w'∧∀ q∈(t.noteL v' (N ++ notesT (1024*i0+p) (takeF ((segB all p).size+1) (segB all p) 0).1)).foot tb,q∈t.foot tb∨w.heap.size≤q:=by
 obtain ⟨_,v',h1,h2,h3⟩:=ht
 refine ⟨v',by rw [←noteL_app t v v'];exact h1,h.chg.trans h2 (fun i hi hx=>?_),fun q hq=>?_⟩
 ·rcases h.foot i hx with x|x
  ·exact x
  ·omega
 ·rw [←noteL_app t v v'] at hq
  rcases h3 q hq with x|x
  ·exact h.foot q x
  ·right
   have:=h.chg.size
   omega
theorem tgath_len {i0 f p:Nat} {all:List UInt8} (h:p≤all.length):(tgathF i0 all f p).1.length+p≤(tgathF i0 all f p).2∧(tgathF i0 all f p).2≤all.length:=by
 induction f generalizing p with
 | zero=>exact ⟨by simp [tgathF],h⟩
 | succ f ih=>
  by_cases hlt:p<all.length
  ·have h1:=take_le ((segB all p).size+1) (segB all p) 0 (Nat.zero_le _)
   have h2:=segB_size all p
   have h3:=notesT_len (1024*i0+p) (takeF ((segB all p).size+1) (segB all p) 0).1
   rw [tgath_some hlt]
   split
   ·dsimp only;omega
   ·have:=ih (p:=p+(segB all p).size) (by omega)
    dsimp only
    rw [List.length_append]
    omega
  ·rw [tgath_stop (by omega)];exact ⟨by simp,h⟩
theorem GaI.next {w0 w wr w':World} {tb:Nat} {t:TapeM} {g:Gh} {st:St} {m:RowM} {i0:Nat} {all:List UInt8} {p f:Nat} {N:List (Int×Int×Int)} {v:Value} {e:Ending} (h:GaI w0 w wr tb t g st m i0 all p (f+1) N v) (ht:TTakeTo w0 wr tb (t.noteL v N) g st m (1024*i0+p) (segB all p) e w') (hp:p<all.length) (hl:¬ (takeF ((segB all p).size+1) (segB all p) 0).2<(segB all p).size) :
 ∃ N' v',GaI w0 w w' tb t g st m i0 all (p+(segB all p).size) f N' v':=by
 obtain ⟨v',h1,h2,h3⟩:=h.took ht
 have a1:=take_le ((segB all p).size+1) (segB all p) 0 (Nat.zero_le _)
 have a2:=segB_size all p
 have a3:=notesT_len (1024*i0+p) (takeF ((segB all p).size+1) (segB all p) 0).1
 have a4:=h.mult hp
 have a5:=h.len
 have a6:=h.fuel
 have he:=h.eq
 rw [tgath_some hp,if_neg hl] at he
 exact ⟨_,v',h1,h2,h3,by rw [List.length_append];omega,by omega,by omega,fun hq=>by omega,by rw [he,List.append_assoc]⟩
theorem GaI.last {w0 w wr w':World} {tb:Nat} {t:TapeM} {g:Gh} {st:St} {m:RowM} {i0:Nat} {all:List UInt8} {p f:Nat} {N:List (Int×Int×Int)} {v:Value} {e:Ending} (h:GaI w0 w wr tb t g st m i0 all p (f+1) N v) (ht:TTakeTo w0 wr tb (t.noteL v N) g st m (1024*i0+p) (segB all p) e w') (hp:p<all.length) (hl:(takeF ((segB all p).size+1) (segB all p) 0).2<(segB all p).size) :
 GatTo w0 w tb t g st m i0 all (.returned (.tuple #[.int .i64 ((1024*i0+p+(takeF ((segB all p).size+1) (segB all p) 0).2:Nat):Int),.int .i64 0])) w':=by
 obtain ⟨v',h1,h2,h3⟩:=h.took ht
 have he:=h.eq
 rw [tgath_some hp,if_pos hl] at he
 unfold GatTo
 rw [he]
 exact ⟨by rw [Nat.add_assoc],v',h1,h2,h3⟩
theorem GaI.end {w0 w wr:World} {tb:Nat} {t:TapeM} {g:Gh} {st:St} {m:RowM} {i0:Nat} {all:List UInt8} {p f:Nat} {N:List (Int×Int×Int)} {v:Value} (h:GaI w0 w wr tb t g st m i0 all p f N v) (hp:all.length≤p) :
 GatTo w0 w tb t g st m i0 all (.returned (.tuple #[.int .i64 ((1024*i0+p:Nat):Int),.int .i64 0])) wr:=by
 have he:=h.eq
 rw [tgath_stop hp,List.append_nil] at he
 unfold GatTo
 rw [he]
 exact ⟨rfl,v,h.tg,h.chg,h.foot⟩
end Go.Proofs.YtnemlgfldfedpaaGreatDoor
namespace Go.Proofs.YtnemlgfldfedpaaGreatDoor
open Go.RowKit Go.Deep
def tape0 (rb cb mb:Nat):TapeM:=⟨rb,cb,mb,.slice none 0 0,[],0,[]⟩
end Go.Proofs.YtnemlgfldfedpaaGreatDoor
