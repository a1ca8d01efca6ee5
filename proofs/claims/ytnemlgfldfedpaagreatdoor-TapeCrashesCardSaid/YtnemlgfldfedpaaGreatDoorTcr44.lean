/- A part. -/
import Derived.Shelf.Slices.Empties
import Derived.Test.YtnemlgfldfedpaaGreatDoorTcr43
set_option linter.unusedVariables false
set_option linter.unusedSimpArgs false
namespace Go.Proofs.YtnemlgfldfedpaaGreatDoor
open Go.RowKit Go.Deep
def lowN (ids:List Int) (a:Int):Nat:=ids.countP (· < a)
theorem lowN_le (ids:List Int) (a:Int):lowN ids a≤ids.length:=List.countP_le_length
def FromTo (w:World) (l:List Int) (e:Ending) (w':World):Prop:=∃ v',e = .returned v'∧Ints w v' l∧CapOk v'∧∃ q,w'=w.drewN q
theorem own_form' {w:World} {base:Nat} {ids:List Int} {v:Value} (h:OwnI w base v ids) :
 (ids=[]∧v = .slice none 0 0)∨∃ g o c,v = .slice (some ⟨g,o,none⟩) ids.length c∧ids.length≤c∧∀ i,i<ids.length→w.cell? ⟨g,o+i,none⟩=some (.int .i64 (ids.getD i 0)):=by
 rcases h with ⟨e,h0⟩|⟨g,o,cap,e,_,_,hc,_,hcell,_⟩
 ·exact .inl ⟨h0,e⟩
 ·exact .inr ⟨g,o,cap,e,hc,hcell⟩
set_option maxRecDepth 100000 in
theorem tfrom_any {w0 w:World} {tb d:Nat} {t:TapeM} (h:TapeAt w0 w tb d t) (hs:t.ids.Pairwise (·≤·)) (hn:t.ids.length≤1000000) (a:Int) :
 Calls Tryz.prog 41 #[.pointer (some ⟨tb,0,none⟩),.int .i64 a] w (FromTo w (t.ids.drop (lowN t.ids a))):=by
 obtain ⟨c0,c1,c2,c3,c4,c5,z⟩:=h.cell
 obtain ⟨i,hi⟩:∃ i,i=lowN t.ids a:=⟨_,rfl⟩
 have hil:i≤t.ids.length:=hi▸lowN_le _ _
 rcases own_form' h.own with ⟨h0,hv⟩|⟨g,o,c,hv,hc,hcell⟩
 ·rw [hv] at c4
  have hi0:i=0:=by rw [h0] at hil;simpa using hil
  have HB:Hid (Calls Tryz.prog 78 #[.slice none 0 0,.int .i64 a] w fun e w'=>e = .returned (.tuple #[.int .i64 0,.bool false])∧∃ q,w'=w.drewN q):=Lib.hid ((Any.slices_BinarySearch_int_empty Tryz.laysNm225 none 0 a w).mono fun e w' h=>⟨h.1,0,h.2⟩)
  have H0:=Lib.hid h0
  clear c0 c1 c2 c3 c5 z h hs hn hv hi hil hi0 h0
  go_enter Tryz.func41,Tryz.ntmps41
  go_wp2_with fail
  refine HB.out.mono ?_
  rintro e w1 ⟨rfl,q,rfl⟩
  go_wp2_with fail
  go_ret
  exact ⟨_,rfl,by rw [H0.out];exact ⟨none,0,by simp,.inl (by simp)⟩,⟨none,0,0,rfl,Nat.le_refl _⟩,q,rfl⟩
 ·rw [hv] at c4
  have HB:=Lib.hid (Tryz.slices_BinarySearch_int g o t.ids.length c t.ids a w (Nat.le_refl _) (by omega) (fun j hj=>hcell j hj) (by rw [List.take_length];exact hs))
  rw [List.take_length,show t.ids.countP (· < a)=i from hi.symm] at HB
  obtain ⟨bb,hbb⟩:∃ bb,t.ids.contains a=bb:=⟨_,rfl⟩
  rw [hbb] at HB
  obtain ⟨n,hn'⟩:∃ n,n=t.ids.length:=⟨_,rfl⟩
  rw [←hn'] at c4 HB hil hn hc
  have HV:Hid (Ints w (.slice (some ⟨g,o+i,none⟩) (n - i) (c - i)) (t.ids.drop i)):=Lib.hid ⟨_,_,by rw [List.length_drop,hn'],.inr ⟨g,o+i,rfl,fun j hj=>by
   rw [List.length_drop] at hj
   rw [Nat.add_assoc,hcell (i+j) (by omega)]
   simp [List.getD_eq_getElem?_getD,List.getElem?_drop]⟩⟩
  rw [←hi]
  have HNL:=Lib.hid hn'
  clear c0 c1 c2 c3 c5 z h hs hv hi hcell hbb hn'
  go_enter Tryz.func41,Tryz.ntmps41
  go_wp2_with fail
  refine HB.out.mono ?_
  rintro e w1 ⟨rfl,q,rfl⟩
  go_wp2_with fail
  ·go_ret
   refine ⟨_,rfl,?_,⟨_,_,_,rfl,by omega⟩,q,rfl⟩
   have hd:n - i=0:=by omega
   have hl0:t.ids.drop i=[]:=by rw [List.drop_eq_nil_iff];have:=HNL.out;omega
   rw [hl0]
   exact ⟨_,_,by rw [hd];rfl,.inl rfl⟩
  ·go_ret
   exact ⟨_,rfl,HV.out,⟨_,_,_,rfl,by omega⟩,q,rfl⟩
attribute [local go_sem] fr_opt
def TapeM.less (t:TapeM) (k:Nat):TapeM:={ t with M:=(t.ids.take k).foldl dropK t.M }
end Go.Proofs.YtnemlgfldfedpaaGreatDoor
namespace Go.Proofs.YtnemlgfldfedpaaGreatDoor
open Go.RowKit Go.Deep
def ItemOk (p:Nat) (M:MsgM) (bs:List UInt8):Prop:=putO M=some bs∧(p % 1024+bs.length=1024∨p % 1024+bs.length+3≤1024)
def LaidAt:Nat→List (MsgM×List UInt8)→Prop
 | _,[]=>True
 | p,x :: l=>ItemOk p x.1 x.2∧LaidAt (p+x.2.length) l
def bytesI (l:List (MsgM×List UInt8)):List UInt8:=l.flatMap (·.2)
def notesI:Nat→List (MsgM×List UInt8)→List (Int×Int×Int)
 | _,[]=>[]
 | p,x :: l=>(if x.1.kind == 0 then [] else [((p:Int),(x.2.length:Int),x.1.born)]) ++ notesI (p+x.2.length) l
theorem bytesI_cons (x:MsgM×List UInt8) (l:List (MsgM×List UInt8)):bytesI (x :: l)=x.2 ++ bytesI l:=by simp [bytesI]
theorem bytesI_app (l l':List (MsgM×List UInt8)):bytesI (l ++ l')=bytesI l ++ bytesI l':=by simp [bytesI]
theorem laidAt_app {p:Nat} {l l':List (MsgM×List UInt8)}:LaidAt p (l ++ l')↔LaidAt p l∧LaidAt (p+(bytesI l).length) l':=by
 induction l generalizing p with
 | nil=>simp [LaidAt,bytesI]
 | cons x l ih=>
  show ItemOk p x.1 x.2∧LaidAt (p+x.2.length) (l ++ l')↔(ItemOk p x.1 x.2∧LaidAt (p+x.2.length) l)∧_
  rw [ih,bytesI_cons,List.length_append,Nat.add_assoc,and_assoc]
theorem notesI_app (p:Nat) (l l':List (MsgM×List UInt8)):notesI p (l ++ l')=notesI p l ++ notesI (p+(bytesI l).length) l':=by
 induction l generalizing p with
 | nil=>simp [notesI,bytesI]
 | cons x l ih=>
  show _ ++ notesI (p+x.2.length) (l ++ l')=_
  rw [ih,bytesI_cons,List.length_append,←Nat.add_assoc,←List.append_assoc]
  rfl
theorem laid_len {p:Nat} {x:MsgM×List UInt8} {l:List (MsgM×List UInt8)} (h:LaidAt p (x :: l)):3≤x.2.length:=by
 have:=(put_get h.1.1 []).2.1
 exact this
theorem laid_none {p:Nat} {l:List (MsgM×List UInt8)} (h:LaidAt p l) (h0:(bytesI l).length=0):l=[]:=by
 cases l with
 | nil=>rfl
 | cons x l=>
  have:=laid_len h
  rw [bytesI_cons,List.length_append] at h0
  omega
theorem extract_bytes (s:ByteArray) (a:Nat):s.extract a s.size=⟨(s.data.toList.drop a).toArray⟩:=by
 apply ByteArray.ext
 rw [ByteArray.data_extract]
 apply Array.ext'
 rw [Array.toList_extract,List.extract_eq_take_drop]
 show List.take (s.data.size - a) _=_
 rw [List.take_of_length_le (by simp)]
theorem take_laid (place:Nat) (s:ByteArray):∀ (l:List (MsgM×List UInt8)) (f q a:Nat),LaidAt q l→q % 1024=a % 1024→a≤1024→a≤s.size→s.data.toList.drop a=(bytesI l).take (1024 - a)→s.size<a+f →
 ∃ l1 l2,l=l1 ++ l2∧(takeF f s a).2=s.size∧notesT place (takeF f s a).1=notesI (place+a) l1∧a+(bytesI l1).length=s.size
 | [],f,q,a,_,_,_,ha,hb,_=>by
  have hs:s.size≤a:=by
   have:=congrArg List.length hb
   simp [bytesI] at this
   have h2:s.data.size=s.size:=rfl
   omega
  refine ⟨[],[],rfl,?_,?_,?_⟩
  ·rw [take_stop (.inl (by omega))];show a=_;omega
  ·rw [take_stop (.inl (by omega))];rfl
  ·simp [bytesI];omega
 | x :: l,f,q,a,hl,hq,h1024,ha,hb,hf=>by
  have hx3:=laid_len hl
  have hlen:=congrArg List.length hb
  have h2:s.data.size=s.size:=rfl
  rw [List.length_drop,List.length_take,Array.length_toList,h2,bytesI_cons,List.length_append] at hlen
  by_cases hlt:a<1024
  ·have hqa:q % 1024=a:=by omega
   have hit:=hl.1.2
   obtain ⟨f',rfl⟩:∃ f',f=f'+1:=⟨f - 1,by omega⟩
   have hsa:a<s.size:=by omega
   have hdr:s.data.toList.drop a=x.2 ++ (bytesI l).take (1024 - (a+x.2.length)):=by
    rw [hb,bytesI_cons,List.take_append,List.take_of_length_le (by omega)]
    congr 2
    omega
   have hg:=(put_get hl.1.1 ((bytesI l).take (1024 - (a+x.2.length)))).1
   rw [←hdr,←extract_bytes] at hg
   have hst:stepT s a=some (x.1,x.2.length):=by
    unfold stepT
    rw [hg]
    rw [if_pos ⟨rfl,by unfold mayB;rcases hit with y|y<;>simp<;>omega⟩]
    rfl
   have hdr2:s.data.toList.drop (a+x.2.length)=(bytesI l).take (1024 - (a+x.2.length)):=by
    rw [←List.drop_drop,hdr,List.drop_left]
   obtain ⟨l1,l2,e1,e2,e3,e4⟩:=take_laid place s l f' (q+x.2.length) (a+x.2.length) hl.2 (by omega) (by omega) (by omega) hdr2 (by omega)
   rw [take_step hsa hst]
   refine ⟨x :: l1,l2,by rw [e1];rfl,e2,?_,by rw [bytesI_cons,List.length_append];omega⟩
   show notesT place ((a,x.1,x.2.length) :: (takeF f' s (a+x.2.length)).1)=_ ++ notesI (place+a+x.2.length) l1
   rw [show place+a+x.2.length=place+(a+x.2.length) from by omega,←e3]
   unfold notesT
   rw [List.filter_cons]
   by_cases hk:(x.1.kind == 0)=true
   ·simp [hk]
   ·simp [hk]
  ·refine ⟨[],x :: l,rfl,?_,?_,?_⟩
   ·rw [take_stop (.inl (by omega))];show a=_;omega
   ·rw [take_stop (.inl (by omega))];rfl
   ·simp [bytesI];omega
theorem take_seg {p:Nat} {all:List UInt8} {l:List (MsgM×List UInt8)} (place:Nat) (hl:LaidAt p l) (hp:p % 1024=0) (hb:all.drop p=bytesI l) :
 ∃ l1 l2,l=l1 ++ l2∧(takeF ((segB all p).size+1) (segB all p) 0).2=(segB all p).size∧notesT place (takeF ((segB all p).size+1) (segB all p) 0).1=notesI place l1∧(bytesI l1).length=(segB all p).size:=by
 obtain ⟨l1,l2,e1,e2,e3,e4⟩:=take_laid place (segB all p) l ((segB all p).size+1) p 0 hl (by omega) (by omega) (Nat.zero_le _) (by rw [List.drop_zero,←hb];rfl) (by omega)
 exact ⟨l1,l2,e1,e2,e3,by omega⟩
theorem gather_laid {i0:Nat} {all:List UInt8}:∀ (f p:Nat) (l:List (MsgM×List UInt8)),LaidAt p l→(p<all.length→p % 1024=0)→all.drop p=bytesI l→p≤all.length→all.length<p+f →
 tgathF i0 all f p=(notesI (1024*i0+p) l,all.length)
 | 0,p,l,_,_,_,_,hf=>by omega
 | f+1,p,l,hl,hp,hb,hpl,hf=>by
  have hlen:=congrArg List.length hb
  rw [List.length_drop] at hlen
  by_cases hlt:p<all.length
  ·obtain ⟨l1,l2,e1,e2,e3,e4⟩:=take_seg (1024*i0+p) hl (hp hlt) hb
   have hsz:=segB_size all p
   subst e1
   rw [tgath_some hlt,e2,if_neg (by omega),e3]
   obtain ⟨hl1,hl2⟩:=laidAt_app.1 hl
   have hb2:all.drop (p+(segB all p).size)=bytesI l2:=by
    rw [←List.drop_drop,hb,bytesI_app,←e4,List.drop_left]
   rw [e4] at hl2
   have ih:=gather_laid (i0:=i0) f (p+(segB all p).size) l2 hl2 (fun hq=>by have:=hp hlt;omega) hb2 (by omega) (by omega)
   rw [ih,notesI_app,e4]
   dsimp only
   rw [Nat.add_assoc]
  ·have h0:l=[]:=laid_none hl (by omega)
   subst h0
   rw [tgath_stop (by omega)]
   show ([],p)=([],all.length)
   rw [show p=all.length from by omega]
theorem seg_split {all:List UInt8} {l:List (MsgM×List UInt8)} (hl:LaidAt 0 l) (hb:all=bytesI l) (hlen:1024≤all.length):∃ l1 l2,l=l1 ++ l2∧(bytesI l1).length=1024∧all.drop 1024=bytesI l2∧LaidAt 0 l1∧LaidAt 1024 l2:=by
 obtain ⟨l1,l2,e1,e2,e3,e4⟩:=take_seg (all:=all) 0 hl rfl (by rw [List.drop_zero];exact hb)
 have hsz:=segB_size all 0
 have h4:(bytesI l1).length=1024:=by omega
 subst e1
 obtain ⟨hl1,hl2⟩:=laidAt_app.1 hl
 rw [h4,Nat.zero_add] at hl2
 exact ⟨l1,l2,rfl,h4,by rw [hb,bytesI_app,←h4,List.drop_left],hl1,hl2⟩
theorem laidAt_mod {p q:Nat} (h:p % 1024=q % 1024):∀ {l:List (MsgM×List UInt8)},LaidAt p l→LaidAt q l
 | [],_=>trivial
 | x :: l,hl=>by
  have h3:=hl.1
  refine ⟨⟨h3.1,by rw [←h];exact h3.2⟩,?_⟩
  exact laidAt_mod (p:=p+x.2.length) (q:=q+x.2.length) (by omega) hl.2
theorem notesI_ge {p:Nat} {l:List (MsgM×List UInt8)}:∀ x∈notesI p l,(p:Int)≤x.1:=by
 induction l generalizing p with
 | nil=>intro x hx;cases hx
 | cons y l ih=>
  intro x hx
  rcases List.mem_append.1 hx with h|h
  ·split at h
   ·cases h
   ·rw [List.mem_singleton] at h
    rw [h]
    exact Int.le_refl _
  ·have:=ih x h
   omega
theorem notesI_lt {p:Nat} {l:List (MsgM×List UInt8)} (hl:LaidAt p l):∀ x∈notesI p l,x.1+x.2.1≤((p+(bytesI l).length:Nat):Int)∧3≤x.2.1:=by
 induction l generalizing p with
 | nil=>intro x hx;cases hx
 | cons y l ih=>
  intro x hx
  have h3:=laid_len hl
  rw [bytesI_cons,List.length_append]
  rcases List.mem_append.1 hx with h|h
  ·split at h
   ·cases h
   ·rw [List.mem_singleton] at h
    rw [h]
    dsimp only
    omega
  ·have:=ih hl.2 x h
   omega
theorem notesI_sorted {p:Nat} {l:List (MsgM×List UInt8)} (hl:LaidAt p l):((notesI p l).map (·.1)).Pairwise (· < ·):=by
 induction l generalizing p with
 | nil=>exact List.Pairwise.nil
 | cons y l ih=>
  have h3:=laid_len hl
  show ((_ ++ notesI (p+y.2.length) l).map (·.1)).Pairwise (· < ·)
  rw [List.map_append,List.pairwise_append]
  refine ⟨?_,ih hl.2,fun a ha b hb=>?_⟩
  ·split
   ·exact List.Pairwise.nil
   ·exact List.pairwise_singleton _ _
  ·obtain ⟨x,hx,rfl⟩:=List.mem_map.1 hb
   have:=notesI_ge x hx
   split at ha
   ·cases ha
   ·rw [List.map_cons,List.map_nil,List.mem_singleton] at ha
    omega
theorem getK_drop (M:List (Int×Int)) (a k:Int):getK (dropK M a) k=if k=a then none else getK M k:=by
 unfold getK dropK
 rw [List.find?_filter]
 by_cases h:k=a
 ·rw [if_pos h]
  rw [List.find?_eq_none.2 (fun p _=>by simp;intro h1 h2;exact h1 (h2.trans h))]
  rfl
 ·rw [if_neg h]
  congr 1
  congr 1
  funext p
  by_cases hp:p.1=k
  ·simp [hp,h]
  ·simp [hp]
theorem getK_put (M:List (Int×Int)) (a b k:Int):getK (dropK M a ++ [(a,b)]) k=if k=a then some b else getK M k:=by
 have hd:=getK_drop M a k
 unfold getK at hd ⊢
 rw [List.find?_append,Option.map_or,hd]
 by_cases h:k=a
 ·rw [if_pos h,if_pos h];simp [h]
 ·rw [if_neg h,if_neg h]
  have:¬ a=k:=fun e=>h e.symm
  simp [this]
structure TapeN (t:TapeM) (N:List (Int×Int×Int)):Prop where
 ids:t.ids=N.map (·.1)
 siz:∀ x∈N,getK t.M x.1=some x.2.1
 non:∀ k,(∀ x∈N,x.1≠k)→getK t.M k=none
 last:∀ x,N.getLast? = some x→t.last=x.2.2
 ml:t.M.length≤N.length
theorem tapeN_new (rb cb mb:Nat):TapeN (tape0 rb cb mb) []:=⟨rfl,fun x h=>(by cases h),fun k _=>rfl,fun x h=>(by cases h),Nat.le_refl _⟩
theorem TapeN.noted {t:TapeM} {N:List (Int×Int×Int)} (h:TapeN t N) (v:Value) (id size born:Int) (hn:∀ x∈N,x.1≠id):TapeN (t.noted v id size born) (N ++ [(id,size,born)]):=by
 refine ⟨by simp [TapeM.noted,h.ids],fun x hx=>?_,fun k hk=>?_,fun x hx=>?_,?_⟩
 ·show getK (dropK t.M id ++ [(id,size)]) x.1=_
  rw [getK_put]
  rcases List.mem_append.1 hx with h1|h1
  ·rw [if_neg (hn x h1)]
   exact h.siz x h1
  ·rw [List.mem_singleton] at h1
   rw [h1,if_pos rfl]
 ·show getK (dropK t.M id ++ [(id,size)]) k=_
  rw [getK_put,if_neg (fun e=>hk (id,size,born) (by simp) e.symm)]
  exact h.non k (fun x hx=>hk x (List.mem_append_left _ hx))
 ·rw [List.getLast?_append] at hx
  simp at hx
  rw [←hx]
  rfl
 ·show (dropK t.M id ++ [(id,size)]).length≤_
  rw [List.length_append,List.length_append]
  have:(dropK t.M id).length≤t.M.length:=List.length_filter_le ..
  have:=h.ml
  simp
  omega
theorem TapeN.same {t t':TapeM} {N:List (Int×Int×Int)} (h:TapeN t N) (h1:t'.ids=t.ids) (h2:t'.M=t.M) (h3:t'.last=t.last):TapeN t' N:=⟨by rw [h1];exact h.ids,by rw [h2];exact h.siz,by rw [h2];exact h.non,by rw [h3];exact h.last,by rw [h2];exact h.ml⟩
theorem TapeN.noteL {N:List (Int×Int×Int)}:∀ (L:List (Int×Int×Int)) {t:TapeM} {N:List (Int×Int×Int)},TapeN t N→∀ v,((N ++ L).map (·.1)).Pairwise (·≠·)→TapeN (t.noteL v L) (N ++ L)
 | [],t,N,h,v,_=>by
  rw [List.append_nil]
  exact h.same (by simp [TapeM.noteL]) rfl rfl
 | x :: L,t,N,h,v,hd=>by
  have e1:(t.noteL v []).noted v x.1 x.2.1 x.2.2=t.noteL v [x]:=noteL_snoc t v v [] x.1 x.2.1 x.2.2
  have h1:TapeN (t.noteL v []) N:=h.same (by simp [TapeM.noteL]) rfl rfl
  have h2:=h1.noted v x.1 x.2.1 x.2.2 (fun y hy=>by
   rw [List.map_append,List.pairwise_append] at hd
   exact hd.2.2 y.1 (List.mem_map_of_mem (f:=(·.1)) hy) x.1 (by simp))
  rw [e1] at h2
  have h3:=TapeN.noteL (N:=[]) L h2 v (by rw [List.append_assoc];exact hd)
  rw [noteL_app,List.append_assoc] at h3
  exact h3
theorem putO_frame {M:MsgM} {bs:List UInt8} (h:putO M=some bs):∃ k rest,bs=frameB k rest:=by
 unfold putO at h
 split at h
 ·split at h
  ·injection h with h
   exact ⟨_,_,h.symm⟩
  ·split at h
   ·injection h with h
    exact ⟨_,_,h.symm⟩
   ·cases h
 ·cases h
theorem told_take (k:UInt8) (rest:List UInt8) (j:Nat) (h:3+rest.length<65536) (hj:3≤j):toldN ⟨((frameB k rest).take j).toArray⟩=3+rest.length:=by
 unfold toldN
 rw [extract_of]
 have e:(((frameB k rest).take j).take (⟨((frameB k rest).take j).toArray⟩:ByteArray).size).drop 1=Oc.numB 2 (3+rest.length) ++ rest.take (j - 3):=by
  rw [sizeL,List.take_length]
  unfold frameB
  obtain ⟨i,rfl⟩:∃ i,j=i+3:=⟨j - 3,by omega⟩
  rw [show i+3=(i+2)+1 from rfl,List.take_succ_cons,List.drop_succ_cons,List.drop_zero,List.take_append,List.take_of_length_le (by rw [Oc.numB_length];omega),Oc.numB_length]
  congr 2
 rw [e]
 have:=Oc.numS_read 2 (3+rest.length) (by decide) (by decide) (by omega) (rest.take (j - 3))
 rw [show ((2:Nat):Int)=2 from rfl] at this
 rw [this]
theorem get_cut {M:MsgM} {bs:List UInt8} (h:putO M=some bs) {j:Nat} (hj:j<bs.length):(getS ⟨(bs.take j).toArray⟩).2.2≠0:=by
 intro h0
 obtain ⟨⟨m,n,x⟩,hg⟩:∃ r,r=getS ⟨(bs.take j).toArray⟩:=⟨_,rfl⟩
 rw [←hg] at h0
 have h0:x=0:=h0
 subst h0
 obtain ⟨l3,l1⟩:=get_len hg.symm
 have h11:=(put_get h []).2.2.1
 rw [sizeL,List.length_take] at l1
 have hg:=hg.symm
 unfold getS at hg
 by_cases h1:(lenS ⟨(bs.take j).toArray⟩).2≠0
 ·rw [if_pos h1] at hg
  injection hg with _ hg;injection hg with _ hg
  exact h1 hg
 ·rw [if_neg h1] at hg
  by_cases h2:(openedS ((⟨(bs.take j).toArray⟩:ByteArray).extract 0 (lenS ⟨(bs.take j).toArray⟩).1.toNat)).2≠0
  ·rw [if_pos h2] at hg
   injection hg with _ hg;injection hg with _ hg
   exact h2 hg
  ·rw [if_neg h2] at hg
   injection hg with _ hg;injection hg with hg _
   have h1':(lenS ⟨(bs.take j).toArray⟩).2=0:=Classical.not_not.1 h1
   have hl:=lenS_ok (s:=⟨(bs.take j).toArray⟩) (n:=n) (by rw [←hg,←h1'])
   obtain ⟨k,rest,hb⟩:=putO_frame h
   have hbl:bs.length=3+rest.length:=by rw [hb,frameB_length]
   have ht:=told_take k rest j (by omega) (by omega)
   rw [←hb] at ht
   rw [ht] at hl
   omega
theorem has_first {l:List UInt8} {c d:UInt8} (hcd:c≠d):hasB ⟨(c :: l).toArray⟩ ⟨#[d]⟩=false:=by
 unfold hasB
 rw [Bool.and_eq_false_iff]
 right
 rw [beq_eq_false_iff_ne]
 intro h
 rw [ByteArray.toList_eq,ByteArray.toList_eq] at h
 rw [ByteArray.data_extract] at h
 rw [show (⟨#[d]⟩:ByteArray).size=1 from rfl] at h
 simp at h
 exact hcd h
theorem step_zero {s:ByteArray} {a:Nat} (h:s.data.toList[a]? = some 0):stepT s a=none:=by
 obtain ⟨hl,hg⟩:=List.getElem?_eq_some_iff.1 h
 obtain ⟨r,hr⟩:∃ r,s.data.toList.drop a=0 :: r:=⟨_,by rw [List.drop_eq_getElem_cons hl,hg]⟩
 have e:lenS (s.extract a s.size)=(0,4):=by
  rw [extract_bytes,hr]
  unfold lenS
  rw [if_pos ⟨by rw [ByteArray.toList_eq];rfl,has_first (by decide),has_first (by decide)⟩]
 unfold stepT
 rw [if_neg]
 rintro ⟨h0,_⟩
 unfold getS at h0
 rw [e,if_pos (by decide)] at h0
 exact absurd h0 (by decide)
theorem take_stop_at (place:Nat) (s:ByteArray) (hs:s.size≤1024):∀ (l:List (MsgM×List UInt8)) (f q a:Nat),LaidAt q l→q % 1024=a % 1024→a≤s.size→(s.data.toList.drop a).take (bytesI l).length=bytesI l→a+(bytesI l).length≤s.size→s.size<a+f→(a+(bytesI l).length=s.size∨stepT s (a+(bytesI l).length)=none) →
 (takeF f s a).2=a+(bytesI l).length∧notesT place (takeF f s a).1=notesI (place+a) l
 | [],f,q,a,_,_,ha,_,_,_,hst=>by
  have h:s.size≤a∨stepT s a=none:=by
   rcases hst with h|h
   ·left;simp [bytesI] at h;omega
   ·right;simpa [bytesI] using h
  rw [take_stop h]
  exact ⟨by simp [bytesI],rfl⟩
 | x :: l,f,q,a,hl,hq,ha,hb,hle,hf,hst=>by
  have hx3:=laid_len hl
  rw [bytesI_cons,List.length_append] at hle hst
  rw [bytesI_cons,List.length_append] at hb
  have hlt:a<s.size:=by omega
  have hqa:q % 1024=a:=by omega
  have hit:=hl.1.2
  obtain ⟨f',rfl⟩:∃ f',f=f'+1:=⟨f - 1,by omega⟩
  obtain ⟨r,hr⟩:∃ r,s.data.toList.drop a=x.2 ++ r:=by
   have h2:=List.take_append_drop (x.2.length+(bytesI l).length) (s.data.toList.drop a)
   rw [hb,List.append_assoc] at h2
   exact ⟨_,h2.symm⟩
  have hg:=(put_get hl.1.1 r).1
  rw [←hr,←extract_bytes] at hg
  have hstp:stepT s a=some (x.1,x.2.length):=by
   unfold stepT
   rw [hg]
   rw [if_pos ⟨rfl,by unfold mayB;rcases hit with y|y<;>simp<;>omega⟩]
   rfl
  have hd2:s.data.toList.drop (a+x.2.length)=r:=by
   rw [←List.drop_drop,hr,List.drop_left]
  have hr2:r.take (bytesI l).length=bytesI l:=by
   rw [hr,List.take_append,List.take_of_length_le (by omega)] at hb
   have:=List.append_cancel_left hb
   rwa [show x.2.length+(bytesI l).length - x.2.length=(bytesI l).length by omega] at this
  obtain ⟨e1,e2⟩:=take_stop_at place s hs l f' (q+x.2.length) (a+x.2.length) hl.2 (by omega) (by omega) (by rw [hd2];exact hr2) (by omega) (by omega) (by rw [Nat.add_assoc];exact hst)
  rw [take_step hlt hstp]
  refine ⟨?_,?_⟩
  ·show (takeF f' s (a+x.2.length)).2=_
   rw [e1,bytesI_cons,List.length_append,Nat.add_assoc]
  ·show notesT place ((a,x.1,x.2.length) :: (takeF f' s (a+x.2.length)).1)=_ ++ notesI (place+a+x.2.length) l
   rw [show place+a+x.2.length=place+(a+x.2.length) from by omega,←e2]
   unfold notesT
   rw [List.filter_cons]
   by_cases hk:(x.1.kind == 0)=true
   ·simp [hk]
   ·simp [hk]
theorem laid_split {p:Nat} {l:List (MsgM×List UInt8)} (hl:LaidAt p l) (hp:p % 1024=0) (hlen:1024≤(bytesI l).length):∃ l1 l2,l=l1 ++ l2∧(bytesI l1).length=1024∧LaidAt p l1∧LaidAt (p+1024) l2:=by
 obtain ⟨l1,l2,e,h1,_,_,_⟩:=seg_split (laidAt_mod (p:=p) (q:=0) (by omega) hl) rfl hlen
 subst e
 obtain ⟨a,b⟩:=laidAt_app.1 hl
 rw [h1] at b
 exact ⟨l1,l2,rfl,h1,a,b⟩
theorem gather_stop {i0:Nat} {all:List UInt8}:∀ (f p:Nat) (l:List (MsgM×List UInt8)),LaidAt p l→(p<all.length→p % 1024=0)→(all.drop p).take (bytesI l).length=bytesI l→p+(bytesI l).length≤all.length→all.length<p+f →
 (p+(bytesI l).length=all.length∨∃ a b,p+(bytesI l).length=a+b∧a % 1024=0∧b<1024∧stepT (segB all a) b=none) →
 tgathF i0 all f p=(notesI (1024*i0+p) l,p+(bytesI l).length)
 | 0,p,l,_,_,_,hle,hf,_=>by omega
 | f+1,p,l,hl,hp,hb,hle,hf,hst=>by
  have HST:=Lib.hid hst
  clear hst
  by_cases hlt:p<all.length
  ·have hp0:=hp hlt
   have hsz:=segB_size all p
   have hsd:(segB all p).data.toList=(all.drop p).take 1024:=rfl
   by_cases hlen:1024≤(bytesI l).length
   ·obtain ⟨l1,l2,e,h1,k1,k2⟩:=laid_split hl hp0 hlen
    subst e
    rw [bytesI_app] at hb
    rw [bytesI_app,List.length_append,h1] at hle HST hlen
    rw [List.length_append,h1] at hb
    have hs1:(segB all p).size=1024:=by omega
    have hb1:(all.drop p).take 1024=bytesI l1:=by
     have:=congrArg (List.take 1024) hb
     rw [List.take_take,Nat.min_eq_left (by omega),List.take_append_of_le_length (by omega),List.take_of_length_le (l:=bytesI l1) (by omega)] at this
     exact this
    have hb2:(all.drop (p+1024)).take (bytesI l2).length=bytesI l2:=by
     have:=congrArg (List.drop 1024) hb
     rw [List.drop_take,List.drop_drop,List.drop_left' h1,Nat.add_sub_cancel_left] at this
     exact this
    obtain ⟨e1,e2⟩:=take_stop_at (1024*i0+p) (segB all p) (by omega) l1 ((segB all p).size+1) p 0 k1 (by omega) (Nat.zero_le _) (by rw [List.drop_zero,hsd,List.take_take,h1,Nat.min_self];exact hb1) (by omega) (by omega) (.inl (by omega))
    rw [Nat.zero_add] at e1
    rw [Nat.add_zero (1024*i0+p)] at e2
    rw [tgath_some hlt,e1,e2,if_neg (by omega),hs1]
    have ih:=gather_stop (i0:=i0) f (p+1024) l2 k2 (fun _=>by omega) hb2 (by omega) (by omega) (by
     rcases HST.out with h|⟨a,b,h,h3⟩
     ·left;omega
     ·right;exact ⟨a,b,by omega,h3⟩)
    rw [ih,notesI_app,bytesI_app,List.length_append,h1]
    dsimp only
    rw [Nat.add_assoc,Nat.add_assoc]
   ·have hfit:(bytesI l).length≤(segB all p).size:=by omega
    have hstp:0+(bytesI l).length=(segB all p).size∨stepT (segB all p) (0+(bytesI l).length)=none:=by
     rw [Nat.zero_add]
     rcases HST.out with h|⟨a,b,h,h3,h4,h5⟩
     ·left;omega
     ·right
      have ha:a=p:=by omega
      have hbb:b=(bytesI l).length:=by omega
      rw [ha,hbb] at h5
      exact h5
    obtain ⟨e1,e2⟩:=take_stop_at (1024*i0+p) (segB all p) (by omega) l ((segB all p).size+1) p 0 hl (by omega) (Nat.zero_le _) (by rw [List.drop_zero,hsd,List.take_take,Nat.min_eq_left (by omega)];exact hb) (by omega) (by omega) hstp
    rw [Nat.zero_add] at e1
    rw [Nat.add_zero (1024*i0+p)] at e2
    rw [tgath_some hlt,e1,e2]
    by_cases h9:(bytesI l).length<(segB all p).size
    ·rw [if_pos h9]
    ·rw [if_neg h9,tgath_stop (by omega),List.append_nil]
     rw [show (segB all p).size=(bytesI l).length by omega]
  ·have h0:(bytesI l).length=0:=by omega
   have:=laid_none hl h0
   subst this
   rw [tgath_stop (by omega)]
   rfl
structure PcF (tn:Nat) (f:FileM) (l1 l2:List (MsgM×List UInt8)):Prop where
 img:f.image=bytesI l1
 byt:f.bytes=bytesI (l1 ++ l2)
 wr:f.writes.map (fun x=>x.s.data.toList)=l2.map (·.2)
 ch:ChainW f.image.length f.writes f.bytes
 tu:f.writes.Pairwise fun a b=>a.turn<b.turn
 tm:∀ x∈f.writes,x.turn≤(tn:Int)
 la:LaidAt 0 (l1 ++ l2)
theorem PcF.empty (tn:Nat):PcF tn emptyF [] []:=⟨rfl,rfl,rfl,rfl,List.Pairwise.nil,fun x hx=>(by cases hx),trivial⟩
theorem PcF.more {tn tn':Nat} {f:FileM} {l1 l2:List (MsgM×List UInt8)} (h:PcF tn f l1 l2) (ht:tn≤tn'):PcF tn' f l1 l2:=⟨h.img,h.byt,h.wr,h.ch,h.tu,fun x hx=>by have:=h.tm x hx;omega,h.la⟩
theorem PcF.piece {tn:Nat} {f:FileM} {l1 l2:List (MsgM×List UInt8)} (h:PcF tn f l1 l2):PieceF f:=
 ⟨by rw [h.img,h.byt,bytesI_app,List.take_left],h.ch,h.tu⟩
theorem chain_snoc {bs:List UInt8} {x:WriteM}:∀ {ws:List WriteM} {a:Nat},ChainW a ws bs→x.at_=bs.length→0<x.s.size→ChainW a (ws ++ [x]) (bs ++ x.s.data.toList)
 | [],a,h,h1,h2=>by
  have h:a=bs.length:=h
  have hl:=size_toList x.s
  refine ⟨by omega,h2,by rw [List.length_append,hl];omega,?_,?_⟩
  ·rw [h,List.drop_left,←hl,List.take_length]
  ·show a+x.s.size=_;rw [List.length_append,hl];omega
 | y :: ws,a,h,h1,h2=>by
  obtain ⟨k1,k2,k3,k4,k5⟩:=h
  refine ⟨k1,k2,by rw [List.length_append];omega,?_,chain_snoc k5 h1 h2⟩
  rw [List.drop_append_of_le_length (by omega),List.take_append_of_le_length (by rw [List.length_drop];omega)]
  exact k4
theorem PcF.add {tn:Nat} {f:FileM} {l1 l2:List (MsgM×List UInt8)} (h:PcF tn f l1 l2) {x:MsgM×List UInt8} {s:ByteArray} (hs:s.data.toList=x.2) (hla:LaidAt 0 (l1 ++ (l2 ++ [x]))) :
 PcF (tn+1) (addF f ⟨(tn:Int)+1,f.bytes.length,s⟩) l1 (l2 ++ [x]):=by
 have hl:=size_toList s
 have hx3:0<s.size:=by
  rw [←List.append_assoc] at hla
  have:=laid_len (laidAt_app.1 hla).2
  rw [←hs] at this
  omega
 have hb:(addF f ⟨(tn:Int)+1,f.bytes.length,s⟩).bytes=f.bytes ++ s.data.toList:=by
  show putB f.bytes f.bytes.length s.data.toList=_
  exact putB_end _ _
 refine ⟨h.img,?_,?_,?_,?_,fun y hy=>?_,hla⟩
 ·rw [hb,h.byt,hs,←List.append_assoc,bytesI_app (l1 ++ l2)]
  simp [bytesI]
 ·show (f.writes ++ [_]).map _=_
  rw [List.map_append,h.wr,List.map_append]
  simp [hs]
 ·rw [hb]
  exact chain_snoc (x:=⟨(tn:Int)+1,f.bytes.length,s⟩) h.ch rfl hx3
 ·show (f.writes ++ [_]).Pairwise _
  exact List.pairwise_append.2 ⟨h.tu,List.pairwise_singleton _ _,fun a ha b hb=>by
   rw [List.mem_singleton.1 hb]
   have:=h.tm a ha
   show a.turn<(tn:Int)+1
   omega⟩
 ·have hy:y∈f.writes ++ [(⟨(tn:Int)+1,f.bytes.length,s⟩:WriteM)]:=hy
  rcases List.mem_append.1 hy with e|e
  ·have:=h.tm y e;omega
  ·rw [List.mem_singleton.1 e]
   show (tn:Int)+1≤_
   omega
theorem PcF.sync {tn:Nat} {f:FileM} {l1 l2:List (MsgM×List UInt8)} (h:PcF tn f l1 l2):PcF tn ⟨f.bytes,f.bytes,[]⟩ (l1 ++ l2) []:=
 ⟨h.byt,by rw [List.append_nil];exact h.byt,rfl,rfl,List.Pairwise.nil,fun x hx=>(by cases hx),by rw [List.append_nil];exact h.la⟩
theorem PcF.stop {tn:Nat} {f:FileM} {l1 l2:List (MsgM×List UInt8)} (h:PcF tn f l1 l2) {c:List UInt8} {k:Nat} (hs:StopW f.image.length f.writes f.bytes c k) :
 ∃ la lb,l2=la ++ lb∧(bytesI (l1 ++ la)).length≤c.length∧c.length≤f.bytes.length∧c.take (bytesI (l1 ++ la)).length=bytesI (l1 ++ la) ∧
  (c.length=(bytesI (l1 ++ la)).length∨c[(bytesI (l1 ++ la)).length]? = some 0∨∃ x lc,lb=x :: lc∧c.length<(bytesI (l1 ++ la)).length+x.2.length∧c=f.bytes.take c.length):=by
 have hlen:f.writes.length=l2.length:=by have:=congrArg List.length h.wr;simpa using this
 have hsum:∀ j,sumW (f.writes.take j)=(bytesI (l2.take j)).length:=fun j=>by
  have h1:(f.writes.take j).map (fun x=>x.s.data.toList)=(l2.take j).map (·.2):=by rw [List.map_take,h.wr,List.map_take]
  have h2:=congrArg (fun L=>(L.map List.length).sum) h1
  simp only [List.map_map] at h2
  unfold sumW bytesI
  rw [List.length_flatMap]
  have e:(f.writes.take j).map (List.length ∘ fun x=>x.s.data.toList)=(f.writes.take j).map (fun x=>x.s.size):=List.map_congr_left fun x _=>size_toList x.s
  rw [e] at h2
  exact h2
 have hpl:f.image.length+sumW (f.writes.take k)=(bytesI (l1 ++ l2.take k)).length:=by
  rw [hsum,bytesI_app,List.length_append,h.img]
 obtain ⟨q1,q2,q3,q4,q5⟩:=hs
 rw [hpl] at q2 q4 q5
 refine ⟨l2.take k,l2.drop k,(List.take_append_drop k l2).symm,q2,q3,?_,?_⟩
 ·have hb:f.bytes=bytesI (l1 ++ l2.take k) ++ bytesI (l2.drop k):=by
   rw [h.byt,←bytesI_app,List.append_assoc,List.take_append_drop]
  rw [q4,hb,List.take_left]
 ·rcases q5 with e|e|⟨x,hx,e,e2⟩
  ·exact .inl e
  ·exact .inr (.inl e)
  ·right;right
   have hkl:k<l2.length:=by rw [←hlen];exact (List.getElem?_eq_some_iff.1 hx).1
   refine ⟨l2[k],l2.drop (k+1),List.drop_eq_getElem_cons hkl,?_,e2⟩
   have h1:=congrArg (fun L=>L[k]?) h.wr
   simp only [List.getElem?_map,hx,List.getElem?_eq_getElem hkl,Option.map_some] at h1
   injection h1 with h1
   rw [←h1,size_toList]
   exact e
structure PcS (m:RowM) (st:St) (ls:List (List (MsgM×List UInt8)×List (MsgM×List UInt8))):Prop where
 head:m.head=tH
 size:m.size=1024
 next:m.next=((1024*ls.length:Nat):Int)
 room:1024*ls.length≤99000000
 fs:∀ i x,ls[i]? = some x→∃ f,st.find (nameB tH (1024*i))=some f∧PcF st.turn f x.1 x.2
theorem PcS.create {n:Nat} {m:RowM} {st:St} {ls:List (List (MsgM×List UInt8)×List (MsgM×List UInt8))} (h:PcS m st ls) (hu:Up n st) (hf:st.find (nameB m.head m.next.toNat)=none) (hb:burnE st=0) (hr:1024*(ls.length+1)≤99000000) :
 PcS { m with next:=m.next+m.size } (createS st (nameB m.head m.next.toNat)) (ls ++ [([],[])]):=by
 have hn:m.next.toNat=1024*ls.length:=by rw [h.next];rfl
 rw [hn,h.head] at hf ⊢
 have hcs:=hu.createS hf hb
 have ht:(createS st (nameB tH (1024*ls.length))).turn=st.turn:=by rw [hcs];exact (burnS_same st).2.2.1
 refine ⟨rfl,h.size,?_,by rw [List.length_append];exact hr,fun i x hx=>?_⟩
 ·show m.next+m.size=_
  rw [h.next,h.size,List.length_append]
  show _=((1024*(ls.length+1):Nat):Int)
  omega
 ·rw [ht]
  by_cases hi:i<ls.length
  ·rw [List.getElem?_append_left hi] at hx
   obtain ⟨f,a,b⟩:=h.fs i x hx
   refine ⟨f,?_,b⟩
   rw [find_create (fun e=>by
    have:=nameB_inj tH (by omega) (by omega) e
    omega)]
   exact a
  ·have hi2:i=ls.length:=by
    have:=(List.getElem?_eq_some_iff.1 hx).1
    rw [List.length_append] at this
    have:i<ls.length+1:=this
    omega
   subst hi2
   rw [List.getElem?_append_right (Nat.le_refl _),Nat.sub_self] at hx
   have hx:(([],[]):List (MsgM×List UInt8)×List (MsgM×List UInt8))=x:=Option.some.inj hx
   subst hx
   refine ⟨emptyF,?_,PcF.empty _⟩
   rw [hcs]
   exact find_snoc_new hf
theorem PcS.write {n:Nat} {m:RowM} {st:St} {ls:List (List (MsgM×List UInt8)×List (MsgM×List UInt8))} {l1 l2:List (MsgM×List UInt8)} (h:PcS m st (ls ++ [(l1,l2)])) (hu:Up n st) (hb:burnE st=0) {x:MsgM×List UInt8} {s:ByteArray} (hs:s.data.toList=x.2) (hs0:s.size≠0) (hcap:s.size≤st.cap - st.size) (hla:LaidAt 0 (l1 ++ (l2 ++ [x]))) {m':RowM} (e1:m'.head=m.head) (e2:m'.size=m.size) (e3:m'.next=m.next) :
 PcS m' (writeS st (nameB tH (1024*ls.length)) ((bytesI (l1 ++ l2)).length:Int) s) (ls ++ [(l1,l2 ++ [x])]):=by
 have hlast:(ls ++ [(l1,l2)])[ls.length]? = some (l1,l2):=by rw [List.getElem?_append_right (Nat.le_refl _),Nat.sub_self];rfl
 obtain ⟨f,hf,hp⟩:=h.fs ls.length _ hlast
 dsimp only at hp
 have hr:=h.room
 rw [List.length_append] at hr
 have hr:1024*(ls.length+1)≤99000000:=hr
 have ha:((bytesI (l1 ++ l2)).length:Int)=(f.bytes.length:Int):=by rw [hp.byt]
 have hws:=hu.writeS hf ha hcap hs0 hb
 have hat:((bytesI (l1 ++ l2)).length:Int).toNat=f.bytes.length:=by rw [ha];rfl
 rw [hat] at hws
 refine ⟨e1.trans h.head,e2.trans h.size,by rw [e3,h.next,List.length_append,List.length_append];rfl,by rw [List.length_append];exact hr,fun i y hy=>?_⟩
 have ht:(writeS st (nameB tH (1024*ls.length)) ((bytesI (l1 ++ l2)).length:Int) s).turn=st.turn+1:=by rw [hws]
 rw [ht]
 by_cases hi:i<ls.length
 ·rw [List.getElem?_append_left hi] at hy
  obtain ⟨f2,a,b⟩:=h.fs i y (by rw [List.getElem?_append_left hi];exact hy)
  refine ⟨f2,?_,b.more (by omega)⟩
  rw [find_write (fun e=>by
   have:=nameB_inj tH (by omega) (by omega) e
   omega)]
  exact a
 ·have hi2:i=ls.length:=by
   have:=(List.getElem?_eq_some_iff.1 hy).1
   rw [List.length_append] at this
   have:i<ls.length+1:=this
   omega
  subst hi2
  rw [List.getElem?_append_right (Nat.le_refl _),Nat.sub_self] at hy
  have hy:(l1,l2 ++ [x])=y:=Option.some.inj hy
  subst hy
  refine ⟨addF f ⟨(st.turn:Int)+1,f.bytes.length,s⟩,?_,hp.add hs hla⟩
  rw [hws]
  exact find_set_same hf
def itemsS (ls:List (List (MsgM×List UInt8)×List (MsgM×List UInt8))):List (MsgM×List UInt8):=ls.flatMap fun x=>x.1 ++ x.2
theorem itemsS_snoc (ls:List (List (MsgM×List UInt8)×List (MsgM×List UInt8))) (a b:List (MsgM×List UInt8)):itemsS (ls ++ [(a,b)])=itemsS ls ++ (a ++ b):=by
 unfold itemsS
 rw [List.flatMap_append]
 simp
def SyncL:List (List (MsgM×List UInt8)×List (MsgM×List UInt8))→List (MsgM×List UInt8)→Prop
 | [],LS=>LS=[]
 | x :: r,LS=>(x.2=[]∧∃ LS',LS=x.1 ++ LS'∧SyncL r LS')∨LS=x.1
theorem SyncL.new:∀ {ls:List (List (MsgM×List UInt8)×List (MsgM×List UInt8))} {LS:List (MsgM×List UInt8)},SyncL ls LS→∀ l,SyncL (ls ++ [([],l)]) LS
 | [],LS,h,l=>.inr h
 | x :: r,LS,h,l=>by
  rcases h with ⟨a,LS',b,c⟩|h
  ·exact .inl ⟨a,LS',b,SyncL.new c l⟩
  ·exact .inr h
theorem SyncL.more:∀ {ls:List (List (MsgM×List UInt8)×List (MsgM×List UInt8))} {l1 l2 LS:List (MsgM×List UInt8)},SyncL (ls ++ [(l1,l2)]) LS→∀ l,SyncL (ls ++ [(l1,l)]) LS
 | [],l1,l2,LS,h,l=>by
  rcases h with ⟨a,LS',b,c⟩|h
  ·have c:LS'=[]:=c
   right
   rw [b,c,List.append_nil]
  ·exact .inr h
 | x :: r,l1,l2,LS,h,l=>by
  rcases h with ⟨a,LS',b,c⟩|h
  ·exact .inl ⟨a,LS',b,SyncL.more c l⟩
  ·exact .inr h
theorem SyncL.all:∀ {ls:List (List (MsgM×List UInt8)×List (MsgM×List UInt8))},(∀ x∈ls,x.2=[])→SyncL ls (itemsS ls)
 | [],_=>rfl
 | x :: r,h=>by
  have hx:=h x (List.mem_cons_self ..)
  refine .inl ⟨hx,itemsS r,?_,SyncL.all fun y hy=>h y (List.mem_cons_of_mem _ hy)⟩
  unfold itemsS
  rw [List.flatMap_cons,hx,List.append_nil]
theorem PcS.app {n:Nat} {m:RowM} {st:St} {j:Nat} {ls:List (List (MsgM×List UInt8)×List (MsgM×List UInt8))} (h:PcS m st ls) (hk:RowU n m st 1024 0 j (bytesI (itemsS ls))) (hb:Held m st) {x:MsgM×List UInt8} {s:ByteArray} (hs:s.data.toList=x.2) (hs0:s.size≠0) (hcap:s.size≤st.cap - st.size) (hroom:1024*(j+1)≤99000000) (hla:LaidAt 0 (itemsS ls ++ [x])) :
 ∃ ls',PcS (appM m s.size) (appS m st s) ls'∧itemsS ls'=itemsS ls ++ [x]∧∀ LS,SyncL ls LS→SyncL ls' LS:=by
 have hn:=hk.c.row.next
 have he:=hk.c.row.end_
 have e1:=hk.c.row.e1
 have e2:=hk.c.row.e2
 have hjl:j=ls.length:=by have:=h.next;omega
 subst hjl
 obtain ⟨hup,k1,k2,k3,k4,k5,f,hf,hl⟩:=hk.rowUp.pre hb.1
 have hlx:=(laidAt_app.1 hla).2
 rw [Nat.zero_add] at hlx e1 e2 he
 by_cases hx:m.end_=m.next
 ·have hfr:=hk.rowUp.fresh hx
  have hc:=h.create hk.up hfr (hb.1 hx) hroom
  have eps:ps m st=createS st (nameB m.head m.next.toNat):=by unfold ps;rw [if_pos hx]
  have epm:pm m = { m with next:=m.next+m.size }:=by unfold pm;rw [if_pos hx]
  have elo:lastOf m=m.next:=by unfold lastOf;rw [epm];show m.next+m.size - m.size=m.next;omega
  rw [←eps] at hc
  have hal:(bytesI (itemsS ls)).length=1024*ls.length:=by omega
  have hw:=hc.write (l1:=[]) (l2:=[]) (x:=x) (s:=s) (m':=appM m s.size) hup hb.2 hs hs0 (by rw [k1,k2];exact hcap) (laidAt_mod (p:=(bytesI (itemsS ls)).length) (q:=0) (by omega) hlx) (by show (pm m).head=_;rw [epm]) (by show (pm m).size=_;rw [epm]) (by show (pm m).next=_;rw [epm])
  have eap:appS m st s=writeS (ps m st) (nameB tH (1024*ls.length)) ((bytesI (([]:List (MsgM×List UInt8)) ++ [])).length:Int) s:=by
   unfold appS
   rw [elo,h.head,hx,h.next]
   have z:((bytesI (([]:List (MsgM×List UInt8)) ++ [])).length:Int)=0:=rfl
   rw [z,Int.sub_self]
   rfl
  rw [eap]
  exact ⟨_,hw,by rw [itemsS_snoc];rfl,fun LS h=>SyncL.new h _⟩
 ·have hj0:ls≠[]:=fun e=>by
   rw [e] at e1 hn
   apply hx
   rw [he,hn,e]
   simp [itemsS,bytesI]
  obtain ⟨pre,l1,l2,rfl⟩:∃ pre l1 l2,ls=pre ++ [(l1,l2)]:=⟨ls.dropLast,(ls.getLast hj0).1,(ls.getLast hj0).2,(List.dropLast_concat_getLast hj0).symm⟩
  have eps:ps m st=st:=by unfold ps;rw [if_neg hx]
  have epm:pm m=m:=by unfold pm;rw [if_neg hx]
  have hlen:(pre ++ [(l1,l2)]).length=pre.length+1:=by rw [List.length_append];rfl
  rw [hlen] at e1 e2 hn hroom
  have elo:lastOf m=((1024*pre.length:Nat):Int):=by
   unfold lastOf
   rw [epm,hn,h.size];omega
  obtain ⟨f2,hf2,hp⟩:=h.fs pre.length (l1,l2) (by rw [List.getElem?_append_right (Nat.le_refl _),Nat.sub_self];rfl)
  dsimp only at hp
  have hff:f=f2:=by
   rw [eps,elo,h.head] at hf
   have:st.find (nameB tH (1024*pre.length))=some f:=hf
   rw [hf2] at this
   exact (Option.some.inj this).symm
  subst hff
  rw [elo,hp.byt] at hl
  have hw:=h.write (x:=x) (s:=s) (m':=appM m s.size) hk.up (by rw [←eps];exact hb.2) hs hs0 hcap (by
   rw [←List.append_assoc]
   exact laidAt_app.2 ⟨hp.la,laidAt_mod (p:=(bytesI (itemsS (pre ++ [(l1,l2)]))).length) (q:=0+(bytesI (l1 ++ l2)).length) (by omega) hlx⟩) (by show (pm m).head=_;rw [epm]) (by show (pm m).size=_;rw [epm]) (by show (pm m).next=_;rw [epm])
  have eap:appS m st s=writeS st (nameB tH (1024*pre.length)) ((bytesI (l1 ++ l2)).length:Int) s:=by
   unfold appS
   rw [eps,elo,hl,h.head]
   rfl
  rw [eap]
  exact ⟨_,hw,by rw [itemsS_snoc,itemsS_snoc];simp,fun LS h=>SyncL.more h _⟩
structure TapeI (w0 w:World) (tb:Nat) (t:TapeM) (g:Gh) (st:St) (m:RowM) (n i0 j:Nat) (l:List (MsgM×List UInt8)):Prop where
 tg:TapeG w0 w tb t g st m
 rc:RowC n m st 1024 i0 j (bytesI l)
 hd:m.head=tH
 la:LaidAt 0 l
 tn:TapeN t (notesI (1024*i0) l)
theorem TapeI.new {w0 w w':World} {tb:Nat} {t:TapeM} {g:Gh} {st:St} {m:RowM} {n i0 j:Nat} {l:List (MsgM×List UInt8)} (h:TapeI w0 w tb t g st m n i0 j l) (hc:Chg (fun _=>False) w w'):TapeI w0 w' tb t g st m n i0 j l:={ h with tg:=h.tg.new hc }
theorem ne_of_lt {l:List Int} (h:l.Pairwise (· < ·)):l.Pairwise (·≠·):=h.imp (fun h=>Int.ne_of_lt h)
theorem TapeI.la' {w0 w:World} {tb:Nat} {t:TapeM} {g:Gh} {st:St} {m:RowM} {n i0 j:Nat} {l:List (MsgM×List UInt8)} (h:TapeI w0 w tb t g st m n i0 j l):LaidAt (1024*i0) l:=laidAt_mod (p:=0) (q:=1024*i0) (by omega) h.la
def itemsA (r:Nat) (M:MsgM) (bs:List UInt8):List (MsgM×List UInt8):=(if tfill r bs.length=[] then [] else [(fillM r,tfill r bs.length)]) ++ [(M,bs)]
theorem itemsA_bytes (r:Nat) (M:MsgM) (bs:List UInt8):bytesI (itemsA r M bs)=tfill r bs.length ++ bs:=by
 unfold itemsA
 split
 ·rename_i h;rw [h];simp [bytesI]
 ·simp [bytesI]
theorem itemsA_laid {i0:Nat} {all:List UInt8} {M:MsgM} {bs:List UInt8} (hp:putO M=some bs) (hl:bs.length≤327) (hok:all.length % 1024≤1021):LaidAt all.length (itemsA (roomT i0 all) M bs)∧notesI (1024*i0+all.length) (itemsA (roomT i0 all) M bs)=if M.kind == 0 then [] else [(((1024*i0+all.length+(tfill (roomT i0 all) bs.length).length:Nat):Int),(bs.length:Int),M.born)]:=by
 have hr:roomT i0 all=1024 - all.length % 1024:=by unfold roomT;omega
 unfold itemsA
 by_cases h1:roomT i0 all=bs.length∨bs.length+3≤roomT i0 all
 ·have ht:tfill (roomT i0 all) bs.length=[]:=by unfold tfill;rw [if_pos h1]
  rw [ht,if_pos rfl]
  refine ⟨⟨⟨hp,?_⟩,trivial⟩,?_⟩
  ·dsimp only
   omega
  ·show _ ++ []=_
   rw [List.append_nil]
   simp
 ·have h3:3≤roomT i0 all:=by omega
  have h4:roomT i0 all≤1024:=by omega
  have ht:tfill (roomT i0 all) bs.length=fillB (roomT i0 all):=by unfold tfill;rw [if_neg h1,if_pos h3]
  have hfl:=fillB_length (roomT i0 all) h3
  have hne:¬ fillB (roomT i0 all)=[]:=fun e=>by rw [e] at hfl;simp at hfl;omega
  rw [ht,if_neg hne]
  refine ⟨⟨⟨putO_fill _ h3 h4,?_⟩,⟨hp,?_⟩,trivial⟩,?_⟩
  ·dsimp only
   omega
  ·dsimp only
   omega
  ·show (if (fillM (roomT i0 all)).kind == 0 then [] else _) ++ (_ ++ [])=_
   rw [show ((fillM (roomT i0 all)).kind == 0)=true from rfl,if_pos rfl,List.nil_append,List.append_nil]
theorem TapeI.app {w0 w w':World} {tb:Nat} {t:TapeM} {g:Gh} {st:St} {m:RowM} {n i0 j:Nat} {l:List (MsgM×List UInt8)} (h:TapeI w0 w tb t g st m n i0 j l) (hok:(bytesI l).length % 1024≤1021) {M:MsgM} {bs:List UInt8} (hk:M.kind≠0) (hp:putO M=some bs)
 {F S:ByteArray} (hF:F=⟨(tfill (roomT i0 (bytesI l)) bs.length).toArray⟩) (hS:S=⟨bs.toArray⟩)
 (ha:TAppTo w0 w tb t g st m (n+4) i0 (bytesI l) (F.data.toList ++ S.data.toList) ((1024*i0+(bytesI l).length+F.size:Nat):Int) S.size M.born w') :
 ∃ t' g' m' st' j',TapeI w0 w' tb t' g' st' m' (n+4) i0 j' (l ++ itemsA (roomT i0 (bytesI l)) M bs)∧g'.d=g.d∧m'.synced=m.synced∧st'.size=st.size+F.size+S.size∧st'.cap=st.cap∧Chg (fun q=>q∈t.foot tb∨q=t.rb∨q∈g.fp) w w'∧(∀ q∈g'.fp,q∈g.fp∨w.heap.size≤q)∧t'.rb=t.rb∧t'.ids=t.ids ++ [((1024*i0+(bytesI l).length+F.size:Nat):Int)]∧∀ q∈t'.foot tb,q∈t.foot tb∨w.heap.size≤q:=by
 obtain ⟨g',m',st',v',j',h1,h2,h3,h4,h5,h6,h7,h8,h9,h10,h11⟩:=ha
 obtain ⟨_,l327⟩:=putO_len hk hp
 obtain ⟨i1,i2⟩:=itemsA_laid (i0:=i0) hp l327 hok
 have hb:bytesI (l ++ itemsA (roomT i0 (bytesI l)) M bs)=bytesI l ++ (F.data.toList ++ S.data.toList):=by
  rw [bytesI_app,itemsA_bytes,hF,hS]
 have hFs:F.size=(tfill (roomT i0 (bytesI l)) bs.length).length:=by rw [hF,sizeL]
 have hSs:S.size=bs.length:=by rw [hS,sizeL]
 have hla:=h.la'
 have hall:LaidAt 0 (l ++ itemsA (roomT i0 (bytesI l)) M bs):=laidAt_app.2 ⟨h.la,by rw [Nat.zero_add];exact i1⟩
 refine ⟨_,g',m',st',j',⟨h1,by rw [hb];exact h5,by rw [h3];exact h.hd,hall,?_⟩,h2,h4,?_,h7,h9,h10,rfl,rfl,h11⟩
 ·rw [notesI_app,i2,if_neg (by simpa using hk),←hFs,←hSs]
  refine h.tn.noted v' _ _ _ (fun x hx=>?_)
  have:=notesI_lt hla x hx
  omega
 ·rw [h6,List.length_append,size_toList,size_toList]
  omega
theorem RowU.more {n n':Nat} {m:RowM} {st:St} {z i0 j:Nat} {all:List UInt8} (h:RowU n m st z i0 j all) (hn:n≤n'):RowU n' m st z i0 j all:=⟨h.c.more hn,h.up.good.more hn,h.up.down⟩
theorem PcS.wrote {n:Nat} {m m':RowM} {st st':St} {j:Nat} {ls:List (List (MsgM×List UInt8)×List (MsgM×List UInt8))} {M:MsgM} {bs:List UInt8} {F S:ByteArray} (h:PcS m st ls) (hk:RowU n m st 1024 0 j (bytesI (itemsS ls))) (hw:WroteS m st F S m' st')
 (hS:S=⟨bs.toArray⟩) (hF:F=⟨(tfill (roomT 0 (bytesI (itemsS ls))) bs.length).toArray⟩) (hla:LaidAt 0 (itemsS ls ++ itemsA (roomT 0 (bytesI (itemsS ls))) M bs)) (hS3:3≤S.size) (hS1:S.size≤1024) (hrm:F.size=0∧S.size≤roomT 0 (bytesI (itemsS ls))∨F.size=roomT 0 (bytesI (itemsS ls))) (hcap:F.size+S.size≤st.cap - st.size) (hroom:1024*(j+2)≤99000000) :
 ∃ ls' j',PcS m' st' ls'∧itemsS ls'=itemsS ls ++ itemsA (roomT 0 (bytesI (itemsS ls))) M bs∧RowU (n+4) m' st' 1024 0 j' (bytesI (itemsS ls'))∧st'.size=st.size+F.size+S.size∧st'.cap=st.cap∧∀ LS,SyncL ls LS→SyncL ls' LS:=by
 have hr:=hk.c.roomOk
 have hFl:=size_toList F
 have hSb:S.data.toList=bs:=by rw [hS]
 have hFb:F.data.toList=tfill (roomT 0 (bytesI (itemsS ls))) bs.length:=by rw [hF]
 obtain ⟨r,hrr⟩:∃ r,r=roomT 0 (bytesI (itemsS ls)):=⟨_,rfl⟩
 have hrpos:0<r∧(0+(bytesI (itemsS ls)).length+r) % 1024=0∧r≤1024:=by rw [hrr];unfold roomT;omega
 have hrl:1024*0+(bytesI (itemsS ls)).length=(bytesI (itemsS ls)).length:=by omega
 rcases hw with ⟨f0,hb,rfl,rfl⟩|⟨f0,hb,hb2,rfl,rfl⟩
 ·have ht:tfill (roomT 0 (bytesI (itemsS ls))) bs.length=[]:=by
   rw [←hFb];exact List.length_eq_zero_iff.1 (by omega)
  have hit:itemsA (roomT 0 (bytesI (itemsS ls))) M bs=[(M,bs)]:=by unfold itemsA;rw [if_pos ht];rfl
  have hSr:S.size≤roomT 0 (bytesI (itemsS ls)):=by
   rcases hrm with ⟨_,x⟩|x
   ·exact x
   ·omega
  rw [hit] at hla ⊢
  obtain ⟨ls',k1,k2,k3⟩:=h.app hk hb (x:=(M,bs)) hSb (by omega) (by omega) (by omega) hla
  obtain ⟨q1,q2,q3⟩:=hk.app S (by omega) (by rw [hr.hr];omega) (by omega) (by omega) hb.1 hb.2
  have e9:bytesI (itemsS ls')=bytesI (itemsS ls) ++ S.data.toList:=by rw [k2,bytesI_app,hSb];simp [bytesI]
  rw [←e9] at q1
  exact ⟨ls',_,k1,k2,q1.more (by omega),by rw [q2,f0];omega,q3,k3⟩
 ·have ht:¬ tfill (roomT 0 (bytesI (itemsS ls))) bs.length=[]:=fun e=>by
   rw [e] at hFb;rw [hFb] at hFl;exact f0 hFl.symm
  have hit:itemsA (roomT 0 (bytesI (itemsS ls))) M bs=[(fillM (roomT 0 (bytesI (itemsS ls))),tfill (roomT 0 (bytesI (itemsS ls))) bs.length)] ++ [(M,bs)]:=by unfold itemsA;rw [if_neg ht]
  have hFr:F.size=roomT 0 (bytesI (itemsS ls)):=by
   rcases hrm with ⟨x,_⟩|x
   ·exact absurd x f0
   ·exact x
  rw [hit,←List.append_assoc] at hla ⊢
  obtain ⟨l1,k1,k2,k3⟩:=h.app hk hb (x:=(fillM (roomT 0 (bytesI (itemsS ls))),tfill (roomT 0 (bytesI (itemsS ls))) bs.length)) hFb f0 (by omega) (by omega) (laidAt_app.1 hla).1
  obtain ⟨q1,q2,q3⟩:=hk.app F f0 (by rw [hr.hr];omega) (by omega) (by omega) hb.1 hb.2
  have e:bytesI (itemsS l1)=bytesI (itemsS ls) ++ F.data.toList:=by
   rw [k2,bytesI_app,hFb];simp [bytesI]
  rw [←e] at q1
  have hroom1:=q1.c.row.room_eq.1
  have hle:(bytesI (itemsS l1)).length=(bytesI (itemsS ls)).length+r:=by rw [e,List.length_append,hFl,hFr,hrr]
  have hrm1:(S.size:Int)≤roomR (appM m F.size):=by
   rw [hroom1]
   rw [hle]
   omega
  rw [←k2] at hla ⊢
  have hj':1024*((if 1024*0+(bytesI (itemsS ls)).length=1024*j then j+1 else j)+1)≤99000000:=by split<;>omega
  obtain ⟨l2,p1,p2,p3⟩:=k1.app q1 hb2 (x:=(M,bs)) hSb (by omega) (by rw [q2,q3];omega) hj' hla
  obtain ⟨u1,u2,u3⟩:=q1.app S (by omega) hrm1 (by rw [q2,q3];omega) hj' hb2.1 hb2.2
  have e9:bytesI (itemsS l2)=bytesI (itemsS l1) ++ S.data.toList:=by rw [p2,bytesI_app,hSb];simp [bytesI]
  rw [←e9] at u1
  exact ⟨l2,_,p1,p2,u1,by rw [u2,q2],u3.trans q3,fun LS hl=>p3 LS (k3 LS hl)⟩
theorem find_fs_t {a b:St} (h:a.fs=b.fs) (f:ByteArray):a.find f=b.find f:=by unfold St.find;rw [h]
theorem PcS.same {m:RowM} {st st':St} {ls:List (List (MsgM×List UInt8)×List (MsgM×List UInt8))} (h:PcS m st ls) (hf:st'.fs=st.fs) (ht:st'.turn=st.turn):PcS m st' ls:=
 ⟨h.head,h.size,h.next,h.room,fun i x hx=>by
  obtain ⟨f,a,b⟩:=h.fs i x hx
  exact ⟨f,(find_fs_t hf _).trans a,by rw [ht];exact b⟩⟩
theorem PcS.fuse {m:RowM} {st:St} {ls:List (List (MsgM×List UInt8)×List (MsgM×List UInt8))} (h:PcS m st ls) (k:Int):PcS m (fuseS st k) ls:=h.same rfl rfl
theorem chain_put {bs:List UInt8}:∀ (ws:List WriteM) (c:List UInt8),c=bs.take c.length→ChainW c.length ws bs→putAll c ws=bs
 | [],c,hc,h=>by
  have h:c.length=bs.length:=h
  show c=bs
  rw [hc,h,List.take_length]
 | x :: ws,c,hc,h=>by
  obtain ⟨h1,h2,h3,h4,h5⟩:=h
  have hl:=size_toList x.s
  have hcl:(c ++ x.s.data.toList).length=c.length+x.s.size:=by rw [List.length_append,hl]
  show putAll (putB c x.at_ x.s.data.toList) ws=bs
  rw [h1,putB_end]
  exact chain_put ws _ (by rw [hcl,List.take_add,h4,←hc]) (by rw [hcl];exact h5)
theorem PcF.syncF {tn:Nat} {f:FileM} {l1 l2:List (MsgM×List UInt8)} (h:PcF tn f l1 l2):PcF tn (syncF f) (l1 ++ l2) []:=by
 have e:Go.Proofs.YtnemlgfldfedpaaGreatDoor.syncF f=⟨f.bytes,f.bytes,[]⟩:=by
  unfold Go.Proofs.YtnemlgfldfedpaaGreatDoor.syncF
  rw [chain_put f.writes f.image h.piece.img h.ch]
 rw [e]
 exact h.sync
theorem PcS.synced {m m':RowM} {st st':St} {ls:List (List (MsgM×List UInt8)×List (MsgM×List UInt8))} (h:PcS m st ls) (hh:m'.head=m.head) (hs:m'.size=m.size) (hn:m'.next=m.next) (ht:st'.turn=st.turn)
 (hf:∀ i x f,ls[i]? = some x→st.find (nameB tH (1024*i))=some f→st'.find (nameB tH (1024*i))=some (syncF f)∨(x.2=[]∧st'.find (nameB tH (1024*i))=some f)) :
 PcS m' st' (ls.map fun x=>(x.1 ++ x.2,[]))∧itemsS (ls.map fun x=>(x.1 ++ x.2,[]))=itemsS ls∧SyncL (ls.map fun x=>(x.1 ++ x.2,[])) (itemsS ls):=by
 have hi:itemsS (ls.map fun x=>(x.1 ++ x.2,[]))=itemsS ls:=by
  unfold itemsS
  rw [List.flatMap_map]
  simp
 refine ⟨⟨hh.trans h.head,hs.trans h.size,by rw [hn,h.next,List.length_map],by rw [List.length_map];exact h.room,fun i x hx=>?_⟩,hi,?_⟩
 ·rw [List.getElem?_map] at hx
  obtain ⟨y,hy,rfl⟩:=Option.map_eq_some_iff.1 hx
  obtain ⟨f,a,b⟩:=h.fs i y hy
  rw [ht]
  rcases hf i y f hy a with e|⟨e1,e2⟩
  ·exact ⟨_,e,b.syncF⟩
  ·refine ⟨f,e2,?_⟩
   dsimp only
   rw [e1] at b ⊢
   rw [List.append_nil]
   exact b
 ·rw [←hi]
  exact SyncL.all fun x hx=>by
   obtain ⟨y,_,rfl⟩:=List.mem_map.1 hx
   rfl
abbrev ItL:=List (MsgM×List UInt8)
structure SegK (last:Bool) (l1 l2:ItL) (c:List UInt8):Prop where
 lai:LaidAt 0 (l1 ++ l2)
 le:(bytesI (l1 ++ l2)).length≤1024
 full:last=false→(bytesI (l1 ++ l2)).length=1024
 stop:∃ la lb,l2=la ++ lb∧(bytesI (l1 ++ la)).length≤c.length∧c.length≤(bytesI (l1 ++ l2)).length∧c.take (bytesI (l1 ++ la)).length=bytesI (l1 ++ la) ∧
  (c.length=(bytesI (l1 ++ la)).length∨c[(bytesI (l1 ++ la)).length]? = some 0∨∃ x lc,lb=x :: lc∧c.length<(bytesI (l1 ++ la)).length+x.2.length∧c=(bytesI (l1 ++ l2)).take c.length)
def SegsK:List (ItL×ItL×List UInt8)→Prop
 | []=>True
 | x :: r=>SegK r.isEmpty x.1 x.2.1 x.2.2∧SegsK r
def rowC:List (ItL×ItL×List UInt8)→List UInt8
 | []=>[]
 | x :: r=>if x.2.2.length=1024 then x.2.2 ++ rowC r else x.2.2
def itemsK (S:List (ItL×ItL×List UInt8)):ItL:=S.flatMap fun x=>x.1 ++ x.2.1
def SyncK:List (ItL×ItL×List UInt8)→ItL→Prop
 | [],LS=>LS=[]
 | x :: r,LS=>(x.2.1=[]∧∃ LS',LS=x.1 ++ LS'∧SyncK r LS')∨LS=x.1
theorem seg_app {c r:List UInt8} (hc:c.length=1024) (a:Nat):segB (c ++ r) (1024+a)=segB r a:=by
 unfold segB
 rw [←hc,List.drop_length_add_append]
theorem seg_head {c r:List UInt8} (hc:c.length=1024):segB (c ++ r) 0=⟨c.toArray⟩:=by
 unfold segB
 rw [List.drop_zero,List.take_left' hc]
theorem seg_small {c:List UInt8} (hc:c.length≤1024):segB c 0=⟨c.toArray⟩:=by
 unfold segB
 rw [List.drop_zero,List.take_of_length_le hc]
theorem step_torn {c y r:List UInt8} {M:MsgM} {a:Nat} (hp:putO M=some y) (hc:c.drop a=y.take (c.length - a)) (hl:c.length - a<y.length):stepT ⟨c.toArray⟩ a=none:=by
 unfold stepT
 rw [if_neg]
 rintro ⟨h0,_⟩
 rw [extract_bytes] at h0
 have e:(⟨c.toArray⟩:ByteArray).data.toList.drop a=c.drop a:=rfl
 rw [e,hc] at h0
 exact get_cut hp hl h0
theorem cut_found:∀ (S:List (ItL×ItL×List UInt8)),SegsK S→∃ LA LB,itemsK S=LA ++ LB∧(rowC S).take (bytesI LA).length=bytesI LA∧(bytesI LA).length≤(rowC S).length ∧
 ((bytesI LA).length=(rowC S).length∨∃ a b,(bytesI LA).length=a+b∧a % 1024=0∧b<1024∧stepT (segB (rowC S) a) b=none)∧∀ LS,SyncK S LS→∃ r,LA=LS ++ r
 | [],_=>⟨[],[],rfl,rfl,Nat.le_refl _,.inl rfl,fun LS h=>by
  have h:LS=[]:=h
  exact ⟨[],by rw [h];rfl⟩⟩
 | (l1,l2,c) :: S,⟨h,hS⟩=>by
  obtain ⟨k1,k2,k3,la,lb,k4,k5,k6,k7,k8⟩:=h
  dsimp only at k1 k2 k3 k4 k5 k6 k7 k8
  have hit:itemsK ((l1,l2,c) :: S)=(l1 ++ la) ++ (lb ++ itemsK S):=by
   unfold itemsK
   rw [List.flatMap_cons,k4]
   simp [List.append_assoc]
  have hlen:(bytesI (l1 ++ l2)).length=(bytesI (l1 ++ la)).length+(bytesI lb).length:=by
   rw [k4,←List.append_assoc,bytesI_app (l1 ++ la),List.length_append]
  have hlaid:LaidAt (0+(bytesI (l1 ++ la)).length) lb:=by
   rw [k4,←List.append_assoc] at k1
   exact (laidAt_app.1 k1).2
  -- where it stops in this segment
  have hstop:(bytesI (l1 ++ la)).length=c.length∨((bytesI (l1 ++ la)).length<c.length∧stepT ⟨c.toArray⟩ (bytesI (l1 ++ la)).length=none):=by
   rcases k8 with e|e|⟨x,lc,e1,e2,e3⟩
   ·exact .inl e.symm
   ·exact .inr ⟨(List.getElem?_eq_some_iff.1 e).1,step_zero e⟩
   ·by_cases he:(bytesI (l1 ++ la)).length=c.length
    ·exact .inl he
    ·refine .inr ⟨by omega,?_⟩
     subst e1
     refine step_torn (y:=x.2) (r:=[]) hlaid.1.1 ?_ (by omega)
     have hb:bytesI (l1 ++ l2)=bytesI (l1 ++ la) ++ (x.2 ++ bytesI lc):=by
      rw [k4,←List.append_assoc,bytesI_app (l1 ++ la),bytesI_cons]
     have e4:=congrArg (List.drop (bytesI (l1 ++ la)).length) e3
     rw [List.drop_take,hb,List.drop_left,List.take_append_of_le_length (by omega)] at e4
     exact e4
  have hsy:∀ LS,LS=l1→∃ r,l1 ++ la=LS ++ r:=fun LS e=>⟨la,by rw [e]⟩
  have hsy2:(bytesI (l1 ++ la)).length<c.length→l2≠[]:=fun hlt e=>by
   rw [e] at k4 k6
   have:la=[]:=(List.append_eq_nil_iff.1 k4.symm).1
   rw [this] at hlt
   omega
  by_cases hc:c.length=1024
  ·have hrow:rowC ((l1,l2,c) :: S)=c ++ rowC S:=if_pos hc
   rw [hrow]
   rcases hstop with he|⟨hlt,hst⟩
   ·have hb0:(bytesI lb).length=0:=by omega
    have:=laid_none hlaid hb0
    subst this
    obtain ⟨LA,LB,q1,q2,q3,q4,q5⟩:=cut_found S hS
    have hcb:c=bytesI (l1 ++ la):=by rw [←k7,he,List.take_length]
    refine ⟨(l1 ++ la) ++ LA,LB,?_,?_,?_,?_,?_⟩
    ·rw [hit,q1];simp
    ·rw [bytesI_app (l1 ++ la),List.length_append,←hcb,List.take_length_add_append,q2]
    ·rw [bytesI_app (l1 ++ la),List.length_append,List.length_append,←hcb];omega
    ·rw [bytesI_app (l1 ++ la),List.length_append,List.length_append,←hcb]
     rcases q4 with e|⟨a,b,e1,e2,e3,e4⟩
     ·left;omega
     ·right
      refine ⟨1024+a,b,by omega,by omega,e3,?_⟩
      rw [seg_app hc]
      exact e4
    ·intro LS hLS
     rcases hLS with ⟨e1,LS',e2,e3⟩|e
     ·obtain ⟨r,hr⟩:=q5 LS' e3
      dsimp only at e1 e2
      rw [e1] at k4
      have:la=[]:=(List.append_eq_nil_iff.1 k4.symm).1
      refine ⟨r,?_⟩
      rw [this,e2,hr];simp
     ·exact ⟨la ++ LA,by rw [e];simp⟩
   ·refine ⟨l1 ++ la,lb ++ itemsK S,hit,?_,by rw [List.length_append];omega,.inr ⟨0,(bytesI (l1 ++ la)).length,by omega,rfl,by omega,?_⟩,?_⟩
    ·rw [List.take_append_of_le_length (by omega)];exact k7
    ·rw [seg_head hc];exact hst
    ·intro LS hLS
     rcases hLS with ⟨e1,_⟩|e
     ·exact absurd e1 (hsy2 hlt)
     ·exact hsy LS e
  ·have hrow:rowC ((l1,l2,c) :: S)=c:=if_neg hc
   rw [hrow]
   refine ⟨l1 ++ la,lb ++ itemsK S,hit,k7,k5,?_,?_⟩
   ·rcases hstop with he|⟨hlt,hst⟩
    ·exact .inl he
    ·exact .inr ⟨0,(bytesI (l1 ++ la)).length,by omega,rfl,by omega,by rw [seg_small (by omega)];exact hst⟩
   ·intro LS hLS
    rcases hLS with ⟨e1,LS',e2,e3⟩|e
    ·dsimp only at e1 e2
     subst e1
     obtain ⟨h1,h2⟩:=List.append_eq_nil_iff.1 k4.symm
     subst h1
     cases S with
     | nil=>
      have e3:LS'=[]:=e3
      exact hsy LS (by rw [e2,e3,List.append_nil])
     | cons x S=>
      have:=k3 rfl
      rw [List.append_nil] at this k5 k6
      omega
    ·exact hsy LS e
theorem gath_rej_at (st:St) (head:ByteArray):∀ (L:List Nat) (m:RowM) (rs:List ByteArray),m.head=head→(∀ p∈L,m.end_<(p:Int)∧p≤99999999)→(L.map (nameB head)).foldl (gathF st) (m,false,rs)=(m,false,rs ++ L.map (nameB head))
 | [],m,rs,_,_=>by simp
 | p :: L,m,rs,h1,h2=>by
  obtain ⟨k1,k2⟩:=h2 p (List.mem_cons_self ..)
  rw [List.map_cons,List.foldl_cons,gathF_at st (m,false,rs) p k2 head h1]
  have ht:takeR m false p (st.len (nameB head p))=(m,false,false):=by
   unfold takeR
   split
   ·rfl
   ·rw [if_neg (by simp),if_pos (by omega)]
  simp only [ht]
  rw [if_neg (by simp),gath_rej_at st head L m _ h1 (fun q hq=>h2 q (List.mem_cons_of_mem _ hq)),List.append_assoc]
  rfl
theorem plS_none (x z:Nat) (hz:0<z):plS x z x=[]:=plS_done x z x (Nat.lt_irrefl _)
theorem plS_cut {z j q:Nat} (hz:0<z) (hq:q≤j):∀ (k i:Nat),i+k=q→plS (z*j) z (z*i)=plS (z*q) z (z*i) ++ plS (z*j) z (z*q)
 | 0,i,hk=>by
  have:i=q:=by omega
  subst this
  rw [plS_none _ _ hz,List.nil_append]
 | k+1,i,hk=>by
  have h1:z*i<z*q:=Nat.mul_lt_mul_of_pos_left (by omega) hz
  have h2:z*q≤z*j:=Nat.mul_le_mul_left z hq
  rw [plS_step _ _ _ hz (by omega:z*i<z*j),plS_step _ _ _ hz h1,←Nat.mul_succ,plS_cut hz hq k (i+1) (by omega)]
  rfl
theorem open_torn (st:St) (head:ByteArray) (z j q e:Nat) (hz:16≤z) (hj:z*j≤99999999) (hq:q<j) (he:e=z*q+st.len (nameB head (z*q))) (hlen:∀ i,i<q→st.len (nameB head (z*i))=z) (hlq:st.len (nameB head (z*q))≤z) (hend:q+1=j∨st.len (nameB head (z*q))<z)
 (hn:(st.fs.map (·.1)).Nodup) (hm:∀ nm,(nm∈st.fs.map (·.1)∧Lib.hasPrefix nm.data.toList head.data.toList=true)↔∃ p∈plS (z*j) z 0,nm=nameB head p) :
 openM st head z = { rowAt head z 0 e (z*(q+1)) with synced:=0,touched:=0 }∧openS st head z=deleteAll st ((plS (z*j) z (z*(q+1))).map (nameB head)):=by
 have hz0:z*0=0:=Nat.mul_zero z
 have hq1:z*(q+1)=z*q+z:=Nat.mul_succ z q
 have hqj:z*(q+1)≤z*j:=Nat.mul_le_mul_left z hq
 have hb:∀ p∈plS (z*j) z 0,p≤99999999:=fun p hp=>by
  have:=plS_mem (by omega) (z*j) 0 (by omega) p hp
  omega
 obtain ⟨h1,h2⟩:=names_rise head _ (plS_rise (by omega) (z*j) 0 (by omega)) hb
 have hN:=names_of head st ((plS (z*j) z 0).map (nameB head)) hn h1 h2 (fun nm=>by
  rw [hm nm,List.mem_map]
  exact ⟨fun ⟨p,hp,hx⟩=>⟨p,hp,hx.symm⟩,fun ⟨p,hp,hx⟩=>⟨p,hp,hx.symm⟩⟩)
 have hcut:=plS_cut (z:=z) (j:=j) (q:=q+1) (by omega) hq (q+1) 0 (by omega)
 rw [hz0] at hcut
 have hown:=gath_own st head z (q+1) e 0 hz (by omega) (by omega) (by omega) (fun i _ hi=>by
  by_cases hiq:i=q
  ·subst hiq;omega
  ·rw [hlen i (by omega)]
   have h3:z*(i+1)≤z*q:=Nat.mul_le_mul_left z (by omega)
   have h4:z*(i+1)=z*i+z:=Nat.mul_succ z i
   omega) (by omega) (by omega)
 rw [hz0] at hown
 have hx:openX st head z=(rowAt head z 0 e (z*(q+1)),false,(plS (z*j) z (z*(q+1))).map (nameB head)):=by
  unfold openX gathS
  rw [hN,hcut,List.map_append,List.foldl_append,hown,gath_rej_at st head _ _ _ rfl,List.nil_append]
  intro p hp
  rcases hend with h|h
  ·rw [h,plS_none _ _ (by omega)] at hp
   cases hp
  ·have:=plS_mem (by omega) (z*j) (z*(q+1)) (by omega) p hp
   refine ⟨?_,by omega⟩
   show (e:Int)<p
   omega
 unfold openM openS
 rw [hx]
 exact ⟨rfl,rfl⟩
structure RowL (n:Nat) (m:RowM) (st:St) (z i0 j:Nat) (all:List UInt8):Prop where
 row:RowI n m st z i0 j (z*i0+all.length)
 ch:∀ i,i0≤i→i<j→∃ f,st.find (nameB m.head (z*i))=some f∧f.bytes=(all.drop (z*i - z*i0)).take z
 nm:∀ p∈st.fs,p.1.size≤1048576
def numC:List (ItL×ItL×List UInt8)→Nat
 | []=>0
 | x :: r=>if x.2.2.length=1024 then numC r+1 else 1
theorem numC_le:∀ S,numC S≤S.length
 | []=>Nat.le_refl _
 | x :: r=>by
  unfold numC
  split
  ·have:=numC_le r;rw [List.length_cons];omega
  ·rw [List.length_cons];omega
theorem rowC_get:∀ (S:List (ItL×ItL×List UInt8)),(∀ x∈S,x.2.2.length≤1024)→(∀ i x,S[i]? = some x→i<numC S→((rowC S).drop (1024*i)).take 1024=x.2.2)∧(∀ i x,S[i]? = some x→i+1<numC S→x.2.2.length=1024)∧(0<numC S→∃ x,S[numC S - 1]? = some x∧(rowC S).length=1024*(numC S - 1)+x.2.2.length∧(numC S=S.length∨x.2.2.length<1024))
 | [],_=>⟨fun i x h=>(by cases h),fun i x h=>(by cases h),fun h=>absurd h (by decide)⟩
 | y :: S,hS=>by
  obtain ⟨h1,h2,h3⟩:=rowC_get S (fun x hx=>hS x (List.mem_cons_of_mem _ hx))
  have hy:=hS y (List.mem_cons_self ..)
  by_cases hc:y.2.2.length=1024
  ·have e1:numC (y :: S)=numC S+1:=if_pos hc
   have e2:rowC (y :: S)=y.2.2 ++ rowC S:=if_pos hc
   rw [e1,e2]
   refine ⟨fun i x hx hi=>?_,fun i x hx hi=>?_,fun _=>?_⟩
   ·cases i with
    | zero=>
     have hx:y=x:=Option.some.inj hx
     rw [Nat.mul_zero,List.drop_zero,List.take_left' hc,hx]
    | succ i=>
     rw [Nat.mul_succ,Nat.add_comm,←hc,List.drop_length_add_append,hc]
     exact h1 i x hx (by omega)
   ·cases i with
    | zero=>
     have hx:y=x:=Option.some.inj hx
     rw [←hx];exact hc
    | succ i=>exact h2 i x hx (by omega)
   ·by_cases h0:0<numC S
    ·obtain ⟨x,k1,k2,k3⟩:=h3 h0
     refine ⟨x,?_,?_,?_⟩
     ·rw [show numC S+1 - 1=(numC S - 1)+1 by omega];exact k1
     ·rw [List.length_append,hc,k2];omega
     ·rw [List.length_cons];omega
    ·have hS0:S=[]:=by
      cases S with
      | nil=>rfl
      | cons a S=>
       exfalso
       apply h0
       unfold numC
       split<;>omega
     subst hS0
     exact ⟨y,rfl,by rw [List.length_append,hc];rfl,.inl rfl⟩
  ·have e1:numC (y :: S)=1:=if_neg hc
   have e2:rowC (y :: S)=y.2.2:=if_neg hc
   rw [e1,e2]
   refine ⟨fun i x hx hi=>?_,fun i x hx hi=>by omega,fun _=>⟨y,rfl,by omega,.inr (by omega)⟩⟩
   have:i=0:=by omega
   subst this
   have hx:y=x:=Option.some.inj hx
   rw [Nat.mul_zero,List.drop_zero,hx,List.take_of_length_le (by rw [←hx];exact hy)]
theorem torn_row {n:Nat} {st:St} {head:ByteArray} {S:List (ItL×ItL×List UInt8)} (hc:Calm n st) (hh:head.size≤100) (hS:∀ x∈S,x.2.2.length≤1024) (h0:0<numC S) (hj:1024*S.length≤99000000)
 (hf:∀ i x,S[i]? = some x→∃ f,st.find (nameB head (1024*i))=some f∧f.bytes=x.2.2)
 (hm:∀ nm,(nm∈st.fs.map (·.1)∧Lib.hasPrefix nm.data.toList head.data.toList=true)↔∃ p∈plS (1024*S.length) 1024 0,nm=nameB head p) (hnm:∀ p∈st.fs,p.1.size≤1048576) :
 RowL n (openM st head 1024) (openS st head 1024) 1024 0 (numC S) (rowC S)∧(openM st head 1024).head=head∧(openM st head 1024).begin_=0:=by
 have hle:=numC_le S
 obtain ⟨h1,h2,h3⟩:=rowC_get S hS
 obtain ⟨x,k1,k2,k3⟩:=h3 h0
 have hlen:∀ i y,S[i]? = some y→st.len (nameB head (1024*i))=y.2.2.length:=fun i y hy=>by
  obtain ⟨f,a,b⟩:=hf i y hy
  unfold St.len
  rw [a]
  show f.bytes.length=_
  rw [b]
 obtain ⟨q,hq⟩:∃ q,q=numC S - 1:=⟨_,rfl⟩
 rw [←hq] at k1 k2
 have hx:=hS x (List.mem_of_getElem? k1)
 have hlq:=hlen q x k1
 obtain ⟨o1,o2⟩:=open_torn st head 1024 S.length q (rowC S).length (by omega) (by omega) (by omega) (by rw [hlq];exact k2) (fun i hi=>by
  obtain ⟨y,hy⟩:∃ y,S[i]? = some y:=⟨_,List.getElem?_eq_getElem (by omega)⟩
  rw [hlen i y hy]
  exact h2 i y hy (by omega)) (by rw [hlq];exact hx) (by rw [hlq];omega) hc.good.names hm
 have hnot:∀ i,i<numC S→nameB head (1024*i)∉(plS (1024*S.length) 1024 (1024*(q+1))).map (nameB head):=fun i hi hx=>by
  obtain ⟨p,hp,hpe⟩:=List.mem_map.1 hx
  have h4:=plS_mem (x:=1024*S.length) (z:=1024) (by omega) (1024*S.length) (1024*(q+1)) (by omega) p hp
  have:=nameB_inj head (by omega) (by omega) hpe
  omega
 have e1024:((1024:Nat):Int)=1024:=rfl
 rw [e1024] at o1 o2
 rw [o1,o2]
 have hqs:q+1=numC S:=by omega
 rw [hqs] at hnot ⊢
 have hz:1024*0=0:=rfl
 refine ⟨⟨⟨hc.delete _,hh,rfl,by decide,by decide,rfl,by show ((rowC S).length:Int)=_;omega,rfl,by omega,by omega,by omega,by omega,by omega,fun nm=>?_,fun i _ hi=>?_,fun h=>by omega,⟨0,rfl,Nat.le_refl _,by omega⟩⟩,fun i _ hi=>?_,fun p hp=>hnm p (deleteAll_sub _ st p hp)⟩,rfl,rfl⟩
 ·rw [names_deleteAll]
  constructor
  ·rintro ⟨⟨a1,a2⟩,a3⟩
   obtain ⟨p,hp,rfl⟩:=(hm nm).1 ⟨a1,a3⟩
   rw [plS_cut (z:=1024) (j:=S.length) (q:=numC S) (by omega) hle (numC S) 0 (by omega),List.mem_append] at hp
   rcases hp with hp|hp
   ·exact ⟨p,hp,rfl⟩
   ·exact absurd (List.mem_map_of_mem hp) a2
  ·rintro ⟨p,hp,rfl⟩
   have hp2:p∈plS (1024*S.length) 1024 0:=by
    have:=plS_cut (z:=1024) (j:=S.length) (q:=numC S) (by omega) hle (numC S) 0 (by omega)
    rw [Nat.mul_zero] at this
    rw [this]
    exact List.mem_append_left _ hp
   obtain ⟨a1,a2⟩:=(hm _).2 ⟨p,hp2,rfl⟩
   refine ⟨⟨a1,?_⟩,a2⟩
   obtain ⟨i,_,b2,rfl⟩:=(plS_iff (z:=1024) (by decide) 0 (numC S) p (by omega)).1 hp
   exact hnot i b2
 ·obtain ⟨y,hy⟩:∃ y,S[i]? = some y:=⟨_,List.getElem?_eq_getElem (by omega)⟩
  have hl:=hlen i y hy
  show (deleteAll st _).len (nameB head (1024*i))=_
  unfold St.len at hl ⊢
  rw [find_deleteAll (hnot i hi),hl]
  by_cases hiq:i=q
  ·subst hiq
   rw [hy] at k1
   have:y=x:=Option.some.inj k1
   rw [this];omega
  ·have:=h2 i y hy (by omega)
   have h5:1024*(i+1)≤1024*q:=Nat.mul_le_mul_left _ (by omega)
   omega
 ·obtain ⟨y,hy⟩:∃ y,S[i]? = some y:=⟨_,List.getElem?_eq_getElem (by omega)⟩
  obtain ⟨f,a,b⟩:=hf i y hy
  refine ⟨f,(find_deleteAll (hnot i hi)).trans a,?_⟩
  rw [b,←h1 i y hy hi]
  rfl
attribute [local go_sem] fr_opt
def COpenL (w0 w:World) (g:Gh) (st:St) (H:ByteArray) (n z i0 j:Nat) (all:List UInt8) (e:Ending) (w':World):Prop:=
 ∃ b,e = .returned (.tuple #[.pointer (some ⟨b,0,none⟩),.int .i64 0])∧w.heap.size≤b∧∃ g' m',RowG w0 w' b g' st m'∧Gh.To w g g' w'∧m'.head=H∧m'.synced=((z*i0:Nat):Int)∧RowL n m' st z i0 j all
theorem RowL.leave {n:Nat} {m:RowM} {st:St} {z i0 j:Nat} {all:List UInt8} (h:RowL n m st z i0 j all) (a:Nat) (ha0:z*i0≤a) (ha1:a≤z*i0+all.length) :
 ∃ j1 e1,RowC n (leaveM m a) (leaveS m st a) z i0 j1 (all.take (e1 - z*i0))∧z*i0≤e1∧e1≤z*i0+all.length∧a≤e1∧(leaveM m a).end_=(e1:Int)∧(leaveM m a).head=m.head ∧
  (a<e1→i0+1≤j1∧z*(j1 - 1)≤a∧(i0+1<j1→z*(j1 - 1)<a))∧(i0<j→i0<j1)∧(i0=j→i0=j1) ∧
  ((e1=z*i0+all.length∧(leaveM m a).synced=m.synced)∨(leaveM m a).synced=min m.synced (e1:Int)) ∧
  (∀ t∈rowNames m (fromM m a).toNat,(st.find t).isSome=true)∧Others m.head st (leaveS m st a):=by
 obtain ⟨k,hk,hk0,hka,hkz⟩:=h.row.from_ a
 have h1:=h.row.size
 have h2:=h.row.beg
 have h3:=h.row.end_
 have h4:=h.row.next
 have h5:=h.row.room
 have h6:=h.row.z1
 have h9:=h.row.e2
 have h8:=h.row.e1
 have h10:=h.row.ij
 have hs0:z*(i0+1)=z*i0+z:=Nat.mul_succ z i0
 have hkn:(fromM m a).toNat=z*k:=by omega
 have hfd:∀ t∈rowNames m (fromM m a).toNat,(st.find t).isSome=true:=h.row.found _ ⟨k,hkn,by omega⟩
 have hot:Others m.head st (leaveS m st a):=Others.delete
 by_cases hkj:k<j
 ·have hle1:z*(k+1)≤z*j:=Nat.mul_le_mul_left z (by omega)
  have hs1:z*(k+1)=z*k+z:=Nat.mul_succ z k
  have hle0:z*(i0+1)≤z*k:=Nat.mul_le_mul_left z hk0
  have hke:z*k≤z*i0+all.length:=by omega
  have hlt:fromM m a<m.next:=by omega
  have hM:leaveM m a = { m with next:=((z*k:Nat):Int),end_:=((z*k:Nat):Int),synced:=min m.synced ((z*k:Nat):Int)}:=by
   unfold leaveM
   rw [if_pos hlt,hk]
   unfold shrinkM
   have:min m.end_ ((z*k:Nat):Int)=((z*k:Nat):Int):=by omega
   rw [this]
  have hS:leaveS m st a=deleteAll st (rowNames m (z*k)):=by unfold leaveS;rw [hkn]
  have hrow:=h.row.leave k hk0 hkj (min m.synced ((z*k:Nat):Int))
  have hlen:z*i0+(all.take (z*k - z*i0)).length=z*k:=by rw [List.length_take];omega
  refine ⟨k,z*k,⟨?_,fun i a1 a2=>?_,fun hx=>?_,?_⟩,by omega,hke,hka,by rw [hM],by rw [hM],fun hx=>?_,fun _=>by omega,fun hx=>by omega,.inr (by rw [hM]),hfd,hot⟩
  ·rw [hM,hS,hlen];exact hrow
  ·obtain ⟨f,hf,hb⟩:=h.ch i a1 (by omega)
   refine ⟨f,?_,?_⟩
   ·rw [hM,hS]
    show (deleteAll st (rowNames m (z*k))).find (nameB m.head (z*i))=some f
    rw [find_deleteAll]
    ·exact hf
    ·intro hx
     obtain ⟨p,hp,hx⟩:=List.mem_map.1 hx
     rw [show m.next.toNat=z*j by omega,show m.size.toNat=z by omega] at hp
     obtain ⟨r,r1,r2,rfl⟩:=(plS_iff (by omega) k j p (by omega)).1 hp
     have l1:z*i≤z*j:=Nat.mul_le_mul_left z (by omega)
     have l2:z*r≤z*j:=Nat.mul_le_mul_left z (by omega)
     have:=nameB_inj m.head (by omega) (by omega) hx
     have:=Nat.eq_of_mul_eq_mul_left (show 0<z by omega) this
     omega
   ·have l1:z*(i+1)≤z*k:=Nat.mul_le_mul_left z (by omega)
    have l2:z*(i+1)=z*i+z:=Nat.mul_succ z i
    have l3:z*i0≤z*i:=Nat.mul_le_mul_left z a1
    rw [hb,List.drop_take,List.take_take]
    congr 1
    omega
  ·rw [hlen]
   have l2:z*(k - 1+1)=z*(k - 1)+z:=Nat.mul_succ z (k - 1)
   rw [show k - 1+1=k by omega] at l2
   omega
  ·rw [hS];exact fun p hp=>h.nm p (deleteAll_sub _ _ p hp)
  ·have l2:z*(k - 1+1)=z*(k - 1)+z:=Nat.mul_succ z (k - 1)
   rw [show k - 1+1=k by omega] at l2
   refine ⟨hk0,?_,fun hy=>?_⟩
   ·rcases hkz with hkz|hkz
    ·subst hkz
     rw [show i0+1 - 1=i0 by omega];omega
    ·omega
   ·rcases hkz with hkz|hkz<;>omega
 ·have hle:z*j≤z*k:=Nat.mul_le_mul_left z (by omega)
  have hlt:¬ fromM m a<m.next:=by omega
  have hM:leaveM m a=m:=by unfold leaveM;rw [if_neg hlt]
  have hS:leaveS m st a=st:=by
   unfold leaveS
   rw [rowNames_nil (by omega) hlt]
   rfl
  have hall:all.take (z*i0+all.length - z*i0)=all:=List.take_of_length_le (by omega)
  refine ⟨j,z*i0+all.length,?_,by omega,Nat.le_refl _,ha1,?_,by rw [hM],fun hx=>?_,fun hx=>hx,fun hx=>hx,.inl ⟨rfl,by rw [hM]⟩,hfd,hot⟩
  ·rw [hM,hS,hall]
   refine ⟨h.row,h.ch,fun hij=>?_,h.nm⟩
   have hkz2:=hkz.resolve_left (by omega)
   have hmul:z*(j - 1)≤z*(k - 1):=Nat.mul_le_mul_left z (by omega)
   have hk1:z*(k - 1)+z=z*k:=by rw [←Nat.mul_succ];congr 1;omega
   omega
  ·rw [hM];exact h3
  ·have hij:i0<j:=Nat.lt_of_le_of_ne h10 fun hx=>by subst hx;omega
   have l2:z*(j - 1+1)=z*(j - 1)+z:=Nat.mul_succ z (j - 1)
   rw [show j - 1+1=j by omega] at l2
   refine ⟨by omega,?_,fun hy=>?_⟩
   ·rcases hkz with hkz|hkz
    ·have hj:j=i0+1:=by omega
     subst hj
     rw [show i0+1 - 1=i0 by omega];omega
    ·omega
   ·rcases hkz with hkz|hkz<;>omega
theorem c_read_l {w0 w:World} {b:Nat} {g:Gh} {st:St} {m:RowM} {n z i0 j:Nat} {all:List UInt8} (k1:RowG w0 w b g st m) (k6:RowL n m st z i0 j all) (a k:Nat) (hk:0<k) (h1:z*i0≤a) (h2:a+k≤z*i0+all.length) (h3:k≤z - a % z) :
 Calls Tryz.prog 44 #[.pointer (some ⟨b,0,none⟩),.int .i64 a,.int .i64 k] w fun e w'=>e = .returned (.tuple #[.string ⟨((all.drop (a - z*i0)).take k).toArray⟩,.int .i64 0])∧Below w.heap.size w w':=by
 have a1:=k6.row.end_
 have a2:=k6.row.beg
 have a3:=k6.row.size
 have a4:=k6.row.z1
 have a5:=k6.row.z2
 have a6:=k6.row.e1
 have a7:=k6.row.room
 have hdm:=Nat.div_add_mod a z
 have hml:=Nat.mod_lt a (show 0<z by omega)
 obtain ⟨i,hi⟩:∃ i,i=a / z:=⟨_,rfl⟩
 rw [←hi] at hdm
 have hi0:i0≤i:=by rw [hi];exact (Nat.le_div_iff_mul_le (by omega)).2 (by rw [Nat.mul_comm];exact h1)
 have hij:i<j:=by rw [hi];exact (Nat.div_lt_iff_lt_mul (by omega)).2 (by rw [Nat.mul_comm];omega)
 have hzi:z*i0≤z*i:=Nat.mul_le_mul_left z hi0
 obtain ⟨f,hf,hfb⟩:=k6.ch i hi0 hij
 have hfl:f.bytes.length=min z (all.length - (z*i - z*i0)):=by rw [hfb,List.length_take,List.length_drop]
 have hmod:(a:Int) % (z:Int)=((a % z:Nat):Int):=(Int.natCast_emod a z).symm
 have hleft:(k:Int)≤leftR m a:=by
  unfold leftR
  rw [a1,a2,a3,hmod]
  split<;>omega
 have hc:=rread_ok w0 b g st m a k (z*i) f w k1 k6.row.calm.down (by omega) (by omega) (by omega) (by omega) (by have:=k6.row.head;omega) hk hleft (by rw [a3,hmod];omega) hf (by omega) (by omega)
 have hb:((f.bytes.drop (a - z*i)).take k)=(all.drop (a - z*i0)).take k:=by
  rw [hfb,List.drop_take,List.take_take,List.drop_drop,show min k (z - (a - z*i))=k from by omega,show z*i - z*i0+(a - z*i)=a - z*i0 from by omega]
 rw [hb] at hc
 exact hc
theorem leftR_seg_l {n:Nat} {m:RowM} {st:St} {i0 j:Nat} {all:List UInt8} (hk:RowL n m st 1024 i0 j all) {p:Nat} (hp:p<all.length) (hm:p % 1024=0):leftR m ((1024*i0+p:Nat):Int)=((segB all p).size:Int):=by
 unfold leftR
 rw [hk.row.beg,hk.row.end_,hk.row.size,segB_size,if_neg (by omega)]
 omega
theorem tg_left_l {w0 w wr w':World} {tb:Nat} {t:TapeM} {g:Gh} {st:St} {m:RowM} {n i0 j p f:Nat} {all:List UInt8} {N:List (Int×Int×Int)} {v:Value} (h:GaI w0 w wr tb t g st m i0 all p f N v) (hk:RowL n m st 1024 i0 j all) (hal:1024*i0+all.length≤100000000) (hp:p<all.length) (hw:Below wr.heap.size wr w') :
 Calls Tryz.prog 51 #[.pointer (some ⟨t.rb,0,none⟩),.int .i64 ((1024*i0+p:Nat):Int)] w' fun e w2=>e = .returned (.int .i64 ((segB all p).size:Int))∧Below w'.heap.size w' w2:=by
 have a1:=hk.row.beg
 have a2:=hk.row.end_
 have a3:=hk.row.size
 have hlr:=leftR_seg_l hk hp (h.mult hp)
 have hc:=rleft_any t.rb g.d m ((1024*i0+p:Nat):Int) w' (h.new (below_chg' hw)).tg.row.row (by rw [a1];omega) (by rw [a2];omega) (by rw [a3];omega) (by rw [a3];omega)
 rw [hlr] at hc
 refine hc.mono ?_
 rintro e w2 ⟨rfl,q,rfl⟩
 exact ⟨rfl,below_drewN (Below.refl _ _) q⟩
theorem tg_read_l {w0 w wr w':World} {tb:Nat} {t:TapeM} {g:Gh} {st:St} {m:RowM} {n i0 j p f:Nat} {all:List UInt8} {N:List (Int×Int×Int)} {v:Value} (h:GaI w0 w wr tb t g st m i0 all p f N v) (hk:RowL n m st 1024 i0 j all) (hp:p<all.length) (hw:Below wr.heap.size wr w') :
 Calls Tryz.prog 44 #[.pointer (some ⟨t.rb,0,none⟩),.int .i64 ((1024*i0+p:Nat):Int),.int .i64 ((segB all p).size:Int)] w' fun e w2=>e = .returned (.tuple #[.string (segB all p),.int .i64 0])∧Below w'.heap.size w' w2:=by
 have hsz:=segB_size all p
 have hm:=h.mult hp
 have hc:=c_read_l (h.new (below_chg' hw)).tg.row hk (1024*i0+p) (segB all p).size (by omega) (by omega) (by omega) (by omega)
 have e1:(all.drop (1024*i0+p - 1024*i0)).take (segB all p).size=(all.drop p).take 1024:=by
  rw [show 1024*i0+p - 1024*i0=p from by omega]
  refine List.take_eq_take_iff.2 ?_
  rw [List.length_drop,hsz]
  omega
 rw [e1] at hc
 exact hc
set_option maxHeartbeats 4000000 in
set_option maxRecDepth 100000 in
theorem tgather_any_l {w0 w:World} {tb:Nat} {t:TapeM} {g:Gh} {st:St} {m:RowM} {n i0 j:Nat} {all:List UInt8} (h:TapeG w0 w tb t g st m) (hk:RowL n m st 1024 i0 j all) (hal:1024*i0+all.length≤100000000) (hal2:all.length≤200000) (hml:t.M.length≤500000) (hil:t.ids.length≤500000) :
 Calls Tryz.prog 25 #[.pointer (some ⟨tb,0,none⟩)] w (GatTo w0 w tb t g st m i0 all):=by
 have HI0:Hid (GaI w0 w w tb t g st m i0 all 0 (all.length+1) [] t.v):=Lib.hid ⟨by rw [noteL_nil];exact h,Chg.refl _ _,fun q hq=>.inl (by rw [noteL_nil] at hq;exact hq),Nat.le_refl _,Nat.zero_le _,by omega,fun _=>rfl,by simp⟩
 have hb:=tbegin_any h
 rw [hk.row.beg] at hb
 have HB:=Lib.hid hb
 have HK:=Lib.hid hk
 obtain ⟨le,hle⟩:∃ le,le=all.length:=⟨_,rfl⟩
 have HLE:=Lib.hid hle
 rw [←hle] at hal hal2
 clear h hk hb hle
 go_enter Tryz.func25,Tryz.ntmps25
 go_wp2_with fail
 refine HB.out.mono ?_
 rintro e w1 ⟨rfl,rfl⟩
 go_wp2_with fail
 go_loopw [4] (fun av wr=>∃ (p f:Nat) (N:List (Int×Int×Int)) (v:Value),av = .int .i64 ((1024*i0+p:Nat):Int)∧GaI w0 w wr tb t g st m i0 all p f N v) (fun av _=>1024*i0+le - (intOf av).toNat)
 case atStart=>exact ⟨0,_,[],t.v,rfl,HI0.out⟩
 case round=>
  obtain ⟨p,fl,N,v,rfl,hI⟩:=hrel
  have HI:=Lib.hid hI
  have hpl:p≤le:=by rw [HLE.out];exact hI.le_
  have hend:=tend_any hI.tg
  rw [HK.out.row.end_,←HLE.out] at hend
  have HE:=Lib.hid hend
  clear hI hend
  obtain ⟨at_,hat⟩:∃ a,a=1024*i0+p:=⟨_,rfl⟩
  obtain ⟨en,hen⟩:∃ a,a=1024*i0+le:=⟨_,rfl⟩
  rw [←hen] at HE ⊢
  rw [←hat]
  have HHT:=Lib.hid hat
  have HEN:=Lib.hid hen
  clear hat hen
  go_wp2_with fail
  refine HE.out.mono ?_
  rintro e w2 ⟨rfl,rfl⟩
  by_cases hlt:p<le
  ·have hat:=HHT.out
   have hlt':at_<en:=by have:=HEN.out;omega
   have hltA:p<all.length:=by rw [←HLE.out];exact hlt
   have hm:=HI.out.mult hltA
   obtain ⟨s,hs⟩:∃ s,s=segB all p:=⟨_,rfl⟩
   obtain ⟨lf,hlf⟩:∃ lf,lf=s.size:=⟨_,rfl⟩
   have hlf2:lf=min 1024 (le - p):=by rw [hlf,hs,segB_size,HLE.out]
   have HC0:Hid (∀ w',Below wr.heap.size wr w'→w'.cell? ⟨tb,0,none⟩=some (.pointer (some ⟨t.rb,0,none⟩))):=Lib.hid (fun w' hw=>(HI.out.new (below_chg' hw)).tg.tape.cell.1)
   have HLEFT:Hid (∀ w',Below wr.heap.size wr w'→Calls Tryz.prog 51 #[.pointer (some ⟨t.rb,0,none⟩),.int .i64 (at_:Int)] w' fun e w2=>e = .returned (.int .i64 (lf:Int))∧Below w'.heap.size w' w2):=Lib.hid (fun w' hw=>by
    rw [hat,hlf,hs]
    exact tg_left_l HI.out HK.out (by rw [←HLE.out];omega) hltA hw)
   have HREAD:Hid (∀ w',Below wr.heap.size wr w'→Calls Tryz.prog 44 #[.pointer (some ⟨t.rb,0,none⟩),.int .i64 (at_:Int),.int .i64 (lf:Int)] w' fun e w2=>e = .returned (.tuple #[.string s,.int .i64 0])∧Below w'.heap.size w' w2):=Lib.hid (fun w' hw=>by
    rw [hat,hlf,hs]
    exact tg_read_l HI.out HK.out hltA hw)
   have hb1:at_+lf≤100000000:=by omega
   have HS:=Lib.hid hs
   have HLF:=Lib.hid hlf
   have HLF2:=Lib.hid hlf2
   clear hm hat hs hlf hlf2
   go_upto_region 3 with fail
   refine region_inv' (n:=44) rfl rfl (by kernel_rfl) (by kernel_rfl) (fun i v _=>match i with|0=>v = .pointer (some ⟨tb,0,none⟩)|1=>v = .pointer (some ⟨tb,0,none⟩)|2=>v = .pointer (some ⟨tb,0,none⟩)|3=>v = .pointer (some ⟨t.rb,0,none⟩)|4=>v = .int .i64 (at_:Int)|5=>v = .pointer (some ⟨tb,0,none⟩)|6=>v = .pointer (some ⟨tb,0,none⟩)|7=>v = .pointer (some ⟨tb,0,none⟩)|8=>v = .pointer (some ⟨t.rb,0,none⟩)|9=>v = .int .i64 (at_:Int)|10=>v = .int .i64 (lf:Int)|11=>v = .tuple #[.string s,.int .i64 0]|12=>v = .tuple #[.string s,.int .i64 0]|13=>v = .string s|14=>v = .int .i64 0|15=>v = .string s|16=>v = .int .i64 0|_=>True)
    (fun w'=>Below wr.heap.size wr w') (fun w' w2=>Below wr.heap.size w' w2) (fun w'=>Below.refl _ _) (fun _ _ _ _ _ h=>h) (Below.refl _ _).drew ?_ ?_
   ·simp only [AllAt]
    refine ⟨?_,?_,?_,?_,?_,?_,?_,?_,?_,?_,?_,?_,?_,?_,?_,?_,?_,trivial⟩
    ·refine StepAt.plain rfl ?_
     intro f w' hG hfr hp Kx hK
     have g0:f 0 = .pointer (some ⟨tb,0,none⟩):=hfr 0 (by kernel_rfl)
     clear hfr hp
     go_simp
     exact hK _ _ rfl hG (Below.refl _ _)
    ·refine StepAt.plain rfl ?_
     intro f w' hG hfr hp Kx hK
     have g15:f 15 = .pointer (some ⟨tb,0,none⟩):=hp 0 _ 15 rfl rfl (by kernel_rfl)
     clear hfr hp
     go_simp
     exact hK _ _ rfl hG (Below.refl _ _)
    ·refine StepAt.plain rfl ?_
     intro f w' hG hfr hp Kx hK
     have g16:f 16 = .pointer (some ⟨tb,0,none⟩):=hp 1 _ 16 rfl rfl (by kernel_rfl)
     clear hfr hp
     go_simp
     exact hK _ _ rfl hG (Below.refl _ _)
    ·refine StepAt.plain rfl ?_
     intro f w' hG hfr hp Kx hK
     have g17:f 17 = .pointer (some ⟨tb,0,none⟩):=hp 2 _ 17 rfl rfl (by kernel_rfl)
     clear hfr hp
     have hc0:=HC0.out w' hG
     go_simp
     exact hK _ _ rfl hG (Below.refl _ _)
    ·refine StepAt.plain rfl ?_
     intro f w' hG hfr hp Kx hK
     have g4:f 4 = .int .i64 (at_:Int):=hfr 4 (by kernel_rfl)
     clear hfr hp
     go_simp
     exact hK _ _ rfl hG (Below.refl _ _)
    ·refine StepAt.plain rfl ?_
     intro f w' hG hfr hp Kx hK
     have g0:f 0 = .pointer (some ⟨tb,0,none⟩):=hfr 0 (by kernel_rfl)
     clear hfr hp
     go_simp
     exact hK _ _ rfl hG (Below.refl _ _)
    ·refine StepAt.plain rfl ?_
     intro f w' hG hfr hp Kx hK
     have g20:f 20 = .pointer (some ⟨tb,0,none⟩):=hp 5 _ 20 rfl rfl (by kernel_rfl)
     clear hfr hp
     go_simp
     exact hK _ _ rfl hG (Below.refl _ _)
    ·refine StepAt.plain rfl ?_
     intro f w' hG hfr hp Kx hK
     have g21:f 21 = .pointer (some ⟨tb,0,none⟩):=hp 6 _ 21 rfl rfl (by kernel_rfl)
     clear hfr hp
     go_simp
     exact hK _ _ rfl hG (Below.refl _ _)
    ·refine StepAt.plain rfl ?_
     intro f w' hG hfr hp Kx hK
     have g22:f 22 = .pointer (some ⟨tb,0,none⟩):=hp 7 _ 22 rfl rfl (by kernel_rfl)
     clear hfr hp
     have hc0:=HC0.out w' hG
     go_simp
     exact hK _ _ rfl hG (Below.refl _ _)
    ·refine StepAt.plain rfl ?_
     intro f w' hG hfr hp Kx hK
     have g4:f 4 = .int .i64 (at_:Int):=hfr 4 (by kernel_rfl)
     clear hfr hp
     go_simp
     exact hK _ _ rfl hG (Below.refl _ _)
    ·refine StepAt.plain rfl ?_
     intro f w' hG hfr hp Kx hK
     have g23:f 23 = .pointer (some ⟨t.rb,0,none⟩):=hp 8 _ 23 rfl rfl (by kernel_rfl)
     have g24:f 24 = .int .i64 (at_:Int):=hp 9 _ 24 rfl rfl (by kernel_rfl)
     clear hfr hp
     go_simp
     refine (HLEFT.out w' hG).mono ?_
     rintro e w2 ⟨rfl,hb⟩
     exact hK _ _ rfl (Below.trans hG (Below.mono hb hG.size)) (Below.mono hb hG.size)
    ·refine StepAt.plain rfl ?_
     intro f w' hG hfr hp Kx hK
     have g18:f 18 = .pointer (some ⟨t.rb,0,none⟩):=hp 3 _ 18 rfl rfl (by kernel_rfl)
     have g19:f 19 = .int .i64 (at_:Int):=hp 4 _ 19 rfl rfl (by kernel_rfl)
     have g25:f 25 = .int .i64 (lf:Int):=hp 10 _ 25 rfl rfl (by kernel_rfl)
     clear hfr hp
     go_simp
     refine (HREAD.out w' hG).mono ?_
     rintro e w2 ⟨rfl,hb⟩
     exact hK _ _ rfl (Below.trans hG (Below.mono hb hG.size)) (Below.mono hb hG.size)
    ·refine StepAt.plain rfl ?_
     intro f w' hG hfr hp Kx hK
     have g26:f 26 = .tuple #[.string s,.int .i64 0]:=hp 11 _ 26 rfl rfl (by kernel_rfl)
     clear hfr hp
     go_simp
     exact hK _ _ rfl hG (Below.refl _ _)
    ·refine StepAt.plain rfl ?_
     intro f w' hG hfr hp Kx hK
     have g14:f 14 = .tuple #[.string s,.int .i64 0]:=hp 12 _ 14 rfl rfl (by kernel_rfl)
     clear hfr hp
     go_simp
     exact hK _ _ rfl hG (Below.refl _ _)
    ·refine StepAt.plain rfl ?_
     intro f w' hG hfr hp Kx hK
     have g14:f 14 = .tuple #[.string s,.int .i64 0]:=hp 12 _ 14 rfl rfl (by kernel_rfl)
     clear hfr hp
     go_simp
     exact hK _ _ rfl hG (Below.refl _ _)
    ·refine StepAt.plain rfl ?_
     intro f w' hG hfr hp Kx hK
     have g27:f 27 = .string s:=hp 13 _ 27 rfl rfl (by kernel_rfl)
     clear hfr hp
     go_simp
     exact hK _ _ rfl hG (Below.refl _ _)
    ·refine StepAt.plain rfl ?_
     intro f w' hG hfr hp Kx hK
     have g28:f 28 = .int .i64 0:=hp 14 _ 28 rfl rfl (by kernel_rfl)
     clear hfr hp
     go_simp
     exact hK _ _ rfl hG (Below.refl _ _)
   ·intro f w5 hG hfr hR
    have hback:=fr_back (n:=44) (f:=f) (D:=[5,6,14,15,16,17,18,19,20,21,22,23,24,25,26,27,28]) rfl (by kernel_rfl) hfr
    have y14:f 14 = .tuple #[.string s,.int .i64 0]:=hR 12 _ 14 rfl rfl
    have y27:f 27 = .string s:=hR 13 _ 27 rfl rfl
    have y28:f 28 = .int .i64 0:=hR 14 _ 28 rfl rfl
    have y5:f 5 = .string s:=hR 15 _ 5 rfl rfl
    have y6:f 6 = .int .i64 0:=hR 16 _ 6 rfl rfl
    rw [hback]
    simp only [mixL,List.elem_eq_contains,List.contains_cons,List.contains_nil,Nat.reduceBEq,Nat.reduceAdd,Bool.or_false,Bool.or_true,Bool.false_or,Bool.true_or,cond_false,cond_true,Bool.or_self,Nat.zero_add,y14,y27,y28,y5,y6]
    have HG5:=Lib.hid hG
    clear hR hG hfr hback y14 y27 y28 y5 y6
    have hat:=HHT.out
    have hs:=HS.out
    have hlf:=HLF.out
    have hlf2:=HLF2.out
    have HI5:=Lib.hid (HI.out.new (below_chg' HG5.out))
    have hln:=noteL_len t v N
    have hnl:=HI5.out.len
    have hTK:=ttake_any HI5.out.tg at_ (by omega) s (by omega) (by omega) (by omega)
    have HTK:=Lib.hid hTK
    clear hTK hln hnl HG5 HREAD HLEFT HC0 HE HI hat hs hlf hlf2
    go_wp2_with fail
    refine HTK.out.mono ?_
    intro e w6 hto
    have hat:=HHT.out
    have hs:=HS.out
    have hlf:=HLF.out
    have hlf2:=HLF2.out
    rw [hat,hs] at hto
    obtain ⟨hev,_⟩:=id hto
    obtain ⟨k,hkk⟩:∃ k,k=(takeF ((segB all p).size+1) (segB all p) 0).2:=⟨_,rfl⟩
    have hks:=(take_le ((segB all p).size+1) (segB all p) 0 (Nat.zero_le _)).1
    have hfu:=HI5.out.fuel
    obtain ⟨f',hf'⟩:∃ f',fl=f'+1:=⟨fl - 1,by omega⟩
    subst hf'
    rw [←hkk] at hev hks
    rw [←hs,←hlf] at hks
    by_cases hkl:k<lf
    ·have HD:=Lib.hid (HI5.out.last hto hltA (by rw [←hkk,←hs,←hlf];exact hkl))
     rw [←hkk] at HD
     have hll:((s.size:Nat):Int)=(lf:Int):=by rw [hlf]
     clear hto hkk hat hs hlf hlf2
     subst hev
     go_wp2_with fail
     refine bodyPost_ret (v:=.tuple #[.int .i64 ((1024*i0+p+k:Nat):Int),.int .i64 0]) ?_ rfl HD.out
     simp [results,Tryz.results25,go_sem]
     have hat:=HHT.out
     omega
    ·obtain ⟨N',v',hI6⟩:=HI5.out.next hto hltA (by rw [←hkk,←hs,←hlf];exact hkl)
     rw [←hs,←hlf] at hI6
     have HI6:=Lib.hid hI6
     have hk:k=lf:=by omega
     subst hk
     have hll:((s.size:Nat):Int)=(k:Int):=by rw [hlf]
     clear hto hkk hat hs hI6 hlf
     subst hev
     go_wp2_with fail
     have hat:=HHT.out
     exact ⟨⟨p+k,f',N',v',by go_num,HI6.out⟩,by simp [intOf];omega⟩
  ·have HD:=Lib.hid (HI.out.end (by rw [←HLE.out];omega))
   rw [←HHT.out] at HD
   have hlt':¬ at_<en:=by have:=HEN.out;have:=HHT.out;omega
   go_wp2_with fail
   refine bodyPost_ret (v:=.tuple #[.int .i64 (at_:Int),.int .i64 0]) ?_ rfl HD.out
   simp [results,Tryz.results25,go_sem]
end Go.Proofs.YtnemlgfldfedpaaGreatDoor
namespace Go.Proofs.YtnemlgfldfedpaaGreatDoor
open Go.RowKit Go.Deep
theorem c_open_torn {w0 w:World} {d:Nat} {g:Gh} {st:St} {n:Nat} {S:List (ItL×ItL×List UInt8)} (hd:DiskG w0 w d g st) (ht:Tab10 w0) (hc:Calm n st) (hn:n≤1048576) (hS:∀ x∈S,x.2.2.length≤1024) (h0:0<numC S) (hj:1024*S.length≤99000000)
 (hf:∀ i x,S[i]? = some x→∃ f,st.find (nameB tH (1024*i))=some f∧f.bytes=x.2.2)
 (hm:∀ nm,(nm∈st.fs.map (·.1)∧Lib.hasPrefix nm.data.toList tH.data.toList=true)↔∃ p∈plS (1024*S.length) 1024 0,nm=nameB tH p) (hnm:∀ p∈st.fs,p.1.size≤1048576) :
 Calls Tryz.prog 23 #[.pointer (some ⟨d,0,none⟩),.string tH,.int .i64 ((1024:Nat):Int)] w (COpenL w0 w g (openS st tH 1024) tH n 1024 0 (numC S) (rowC S)):=by
 obtain ⟨h1,h2,h3⟩:=torn_row hc (by decide) hS h0 hj hf hm hnm
 have hc2:=open_calm w0 g st tH 1024 n w hd.disk hd.chg hd.low ht hc hn hnm (by omega) (by omega)
 rw [hd.d] at hc2
 refine hc2.mono ?_
 rintro e w' ⟨b,rfl,hb,g',hg',hto⟩
 refine ⟨b,rfl,hb,g',_,hg',hto,h2,?_,h1⟩
 show (openX st tH 1024).1.begin_=_
 exact h3
def IntsTo (w:World) (l:List Int) (e:Ending) (w':World):Prop:=∃ v',e = .returned v'∧w'.ownsRow w.heap.size 3 1 v' l.length (l.map (Value.int .i64))∧Below w.heap.size w w'
theorem append_ints {w:World} {base:Nat} {v u:Value} {xs:List Int} (ys:List Int) (hown:w.ownsRow base 3 1 v xs.length (xs.map (Value.int .i64))) (hu:Ints w u ys) (hn:xs.length+ys.length≤2000000) (hb:base≤w.heap.size) (ty:TypeId) :
 ∃ v' w',(Builtin.append_ #[40,40] ty #[v,u]).run Tryz.prog w = .ok v' w'∧w'.ownsRow base 3 1 v' (xs ++ ys).length ((xs ++ ys).map (Value.int .i64))∧w.grownBy w' v.ownBlock:=by
 obtain ⟨i0,hi,hz0,hz1,hz2⟩:=info_parts info_num
 obtain ⟨a,cap,rfl,h⟩:=hu
 rw [List.length_append,List.map_append]
 cases a with
 | none=>
  have h0:ys=[]:=by
   rcases h with h|⟨b,o,h,_⟩
   ·exact h
   ·cases h
  subst h0
  refine ⟨v,w,?_,by simpa using hown,grownBy_refl _ _⟩
  rcases hown.2 with ⟨rfl,hx⟩|⟨g,cap,cur,rfl,_,_,hnc,_⟩
  ·simp [Builtin.append_,run_underlying Tryz.underlying40,sizeOf,typeInfo,hi,Builtin.lenOf,Builtin.firstCells]
  ·simp [Builtin.append_,run_underlying Tryz.underlying40,sizeOf,typeInfo,hi,Builtin.lenOf,Builtin.firstCells,hnc,storeCells]
 | some a=>
  have hc:∀ j u,(ys.map (Value.int .i64))[j]? = some u→w.cell? (a.add j)=some u:=by
   intro j u hj
   have hlt:j<ys.length:=by
    have:=(List.getElem?_eq_some_iff.1 hj).1
    simpa using this
   rcases h with h|⟨b,o,h,h2⟩
   ·subst h;simp at hlt
   ·cases h
    rw [add_none,h2 j hlt]
    rw [List.getElem?_map,List.getElem?_eq_getElem hlt] at hj
    simp only [Option.map_some,Option.some.injEq] at hj
    rw [←hj,List.getD_eq_getElem?_getD,List.getElem?_eq_getElem hlt]
    rfl
  obtain ⟨v',w',h1,h2,h3,_⟩:=run_append_own (P:=Tryz.prog) w base 40 ty 3 i0 (.int .i64 0) 1 8 Tryz.underlying40 hi hz0 hz1 hz2 rfl (by decide) v xs.length (xs.map (Value.int .i64)) hown a ys.length cap (ys.map (Value.int .i64)) (by simp) hc (by
   intro u hu
   obtain ⟨t,_,rfl⟩:=List.mem_map.1 hu
   rfl) (by unfold maxLen;omega) (by omega) hb
  exact ⟨v',w',h1,h2,h3⟩
theorem wpList_append_ints {w:World} {ops:Array Oper} {rest:List Oper} {o:Oper} {a:Act} {Q:Exit→Act→World→Prop} (hgd:o.guard=none) (sl x:Operand)
 (ho:o.op = .call { callee:=.builtin .append,args:=#[sl,x],argTypes:=#[40,40]})
 (base:Nat) (v u:Value) (xs ys:List Int) (hs:a.eval sl=v) (hx:a.eval x=u) (hown:w.ownsRow base 3 1 v xs.length (xs.map (Value.int .i64))) (hu:Ints w u ys) (hn:xs.length+ys.length≤2000000) (hbase:base≤w.heap.size)
 (h:∀ v' w',w'.ownsRow base 3 1 v' (xs ++ ys).length ((xs ++ ys).map (Value.int .i64))→w.grownBy w' v.ownBlock→wpList Tryz.prog ops Q rest (a.put o.dst v') w'):wpList Tryz.prog ops Q (o :: rest) a w:=by
 refine wpList_plain hgd fun K hK=>?_
 obtain ⟨v',w',hr,h2,h3⟩:=append_ints (w:=w) (u:=u) ys hown hu hn hbase o.type
 unfold Oper.wp execOp
 simp only [ho,resolve,invoke,builtin,Sem.run_bind,Sem.run_pure,Result.andThen_ok,List.map_toArray,List.map_cons,List.map_nil,hs,hx,hr]
 exact hK _ _ (h v' w' h2 h3)
theorem iclone_any (v:Value) (l:List Int) (w:World) (h:Ints w v l) (hl:l.length≤1000000) :
 Calls Tryz.prog 40 #[v] w (IntsTo w l):=by
 obtain ⟨a,c,rfl,h'⟩:=id h
 cases a with
 | none=>
  have h0:l=[]:=by
   rcases h' with h|⟨b,o,h,_⟩
   ·exact h
   ·cases h
  subst h0
  have hnil:=fun W=>Lib.run_eql_slice_nil (P:=Tryz.prog) W 40 3 none 0 c 0 0 Tryz.underlying40
  clear h h'
  go_enter Tryz.func40,Tryz.ntmps40
  go_wp2_with fail
  go_ret
  exact ⟨_,rfl,World.ownsRow_nil _ _ _ _,Below.refl _ _⟩
 | some a=>
  obtain ⟨n,hn⟩:∃ n,n=l.length:=⟨_,rfl⟩
  rw [←hn] at h
  rw [←hn]
  have hnil:=fun W=>Lib.run_eql_slice_nil (P:=Tryz.prog) W 40 3 (some a) n c 0 0 Tryz.underlying40
  have H:=Lib.hid h
  have HN:=Lib.hid hn
  clear h h' hn
  go_enter Tryz.func40,Tryz.ntmps40
  go_wp2_with (at_builtin;with_reducible refine wpList_append_ints rfl (.tmp 5) (.tmp 6) rfl w.heap.size (.slice (some ⟨w.heap.size,0,none⟩) 0 0) _ [] l rfl rfl ?c1 ?c2 ?c3 ?c4 ?c5)
  case c1=>exact World.ownsRow_made w #[] 0 (Nat.le_refl _) (Nat.zero_le _) rfl
  case c2=>exact H.out.below ((Below.refl _ _).alloc (Nat.le_refl _) _) (Nat.le_refl _)
  case c3=>simp;omega
  case c4=>simp [go_sem]
  case c5=>
   intro v' w' ho hg
   have HO:=Lib.hid ho
   have HB:Hid (Below w.heap.size w w'):=Lib.hid (((Below.refl _ _).alloc (Nat.le_refl _) _).grown hg (by simp [go_sem]) (fun k hk=>by simp [Value.ownBlock] at hk;omega))
   clear ho hg
   go_wp2_with fail
   go_ret
   exact ⟨_,rfl,HO.out,HB.out⟩
theorem tids_any {w0 w:World} {tb d:Nat} {t:TapeM} (h:TapeAt w0 w tb d t) (hs:t.ids.Pairwise (·≤·)) (hn:t.ids.length≤1000000) (a:Int) :
 Calls Tryz.prog 14 #[.pointer (some ⟨tb,0,none⟩),.int .i64 a] w (IntsTo w (t.ids.drop (lowN t.ids a))):=by
 have HF:=Lib.hid (tfrom_any h hs hn a)
 obtain ⟨l,hl⟩:∃ l,l=t.ids.drop (lowN t.ids a):=⟨_,rfl⟩
 have hll:l.length≤1000000:=by rw [hl,List.length_drop];omega
 rw [←hl] at HF ⊢
 clear h hs hn hl
 go_enter Tryz.func14,Tryz.ntmps14
 go_wp2_with fail
 refine HF.out.mono ?_
 rintro e w1 ⟨v',rfl,hv,_,q,rfl⟩
 obtain ⟨a',c',hv'⟩:=id hv
 have HV:=Lib.hid hv
 have hC:=iclone_any v' l (w.drewN q) (by exact hv) hll
 obtain ⟨ve,_⟩:=hv'
 rw [ve] at hC ⊢
 have HC:=Lib.hid hC
 clear hC hv ve
 go_wp2_with fail
 refine HC.out.mono ?_
 rintro e w2 ⟨v2,rfl,ho,hb⟩
 go_wp2_with fail
 go_ret
 exact ⟨_,rfl,ho,(below_drewN (Below.refl w.heap.size w) q).trans hb⟩
theorem TapeI.read {w0 w:World} {tb:Nat} {t:TapeM} {g:Gh} {st:St} {m:RowM} {n i0 j:Nat} {l1 l2:List (MsgM×List UInt8)} {M:MsgM} {bs:List UInt8} (h:TapeI w0 w tb t g st m n i0 j (l1 ++ (M,bs) :: l2)) (hk:M.kind≠0) (hal:1024*i0+(bytesI l1).length≤9000000000) :
 Calls Tryz.prog 19 #[.pointer (some ⟨tb,0,none⟩),.int .i64 ((1024*i0+(bytesI l1).length:Nat):Int)] w (ReadTo M 0 w):=by
 obtain ⟨h1,h2⟩:=laidAt_app.1 h.la
 rw [Nat.zero_add] at h2
 have hit:=h2.1
 have hb:bytesI (l1 ++ (M,bs) :: l2)=bytesI l1 ++ (bs ++ bytesI l2):=by rw [bytesI_app,bytesI_cons]
 have hit2:(bytesI l1).length % 1024+bs.length=1024∨(bytesI l1).length % 1024+bs.length+3≤1024:=hit.2
 have hmem:(((1024*i0+(bytesI l1).length:Nat):Int),(bs.length:Int),M.born)∈notesI (1024*i0) (l1 ++ (M,bs) :: l2):=by
  rw [notesI_app]
  refine List.mem_append_right _ ?_
  show _∈(if M.kind == 0 then [] else _) ++ _
  rw [if_neg (by simpa using hk)]
  exact List.mem_append_left _ (List.mem_singleton.2 rfl)
 have hsz:=h.tn.siz _ hmem
 refine tread_ok h.tg h.rc (1024*i0+(bytesI l1).length) hal M bs hit.1 (by omega) ?_ (by omega) ?_ (by rw [hsz];rfl)
 ·rw [hb,List.length_append,List.length_append]
  omega
 ·rw [hb,show 1024*i0+(bytesI l1).length - 1024*i0=(bytesI l1).length from by omega,List.drop_left,List.take_left]
end Go.Proofs.YtnemlgfldfedpaaGreatDoor
