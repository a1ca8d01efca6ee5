/- A part. -/
import Derived.Shelf.Slices.Empties
import Derived.Test.YtajmeimjaapagaaGreatDoorDor57
set_option linter.unusedVariables false
set_option linter.unusedSimpArgs false
namespace Go.Proofs.YtajmeimjaapagaaGreatDoor
open Go.RowKit Go.Deep
def lowN (ids:List Int) (a:Int):Nat:=ids.countP (· < a)
theorem lowN_le (ids:List Int) (a:Int):lowN ids a≤ids.length:=List.countP_le_length
def FromTo (w:World) (l:List Int) (e:Ending) (w':World):Prop:=∃ v',e = .returned v'∧Ints w v' l∧CapOk v'∧∃ q,w'=w.drewN q
theorem own_form' {w:World} {base:Nat} {ids:List Int} {v:Value} (h:OwnI w base v ids) :
 (ids=[]∧v = .slice none 0 0)∨∃ g o c,v = .slice (some ⟨g,o,none⟩) ids.length c∧ids.length≤c∧∀ i,i<ids.length→w.cell? ⟨g,o+i,none⟩=some (.int .i64 (ids.getD i 0)):=by
 rcases h with ⟨e,h0⟩|⟨g,o,cap,e,_,_,hc,_,hcell,_⟩
 ·exact .inl ⟨h0,e⟩
 ·exact .inr ⟨g,o,cap,e,hc,hcell⟩
set_option maxRecDepth 100000 in
theorem tfrom_any {w0 w:World} {tb d:Nat} {t:TapeM} (h:TapeAt w0 w tb d t) (hs:t.ids.Pairwise (·≤·)) (hn:t.ids.length≤1000000) (a:Int) :
 Calls Tryz.prog 46 #[.pointer (some ⟨tb,0,none⟩),.int .i64 a] w (FromTo w (t.ids.drop (lowN t.ids a))):=by
 obtain ⟨c0,c1,c2,c3,c4,c5,z⟩:=h.cell
 obtain ⟨i,hi⟩:∃ i,i=lowN t.ids a:=⟨_,rfl⟩
 have hil:i≤t.ids.length:=hi▸lowN_le _ _
 rcases own_form' h.own with ⟨h0,hv⟩|⟨g,o,c,hv,hc,hcell⟩
 ·rw [hv] at c4
  have hi0:i=0:=by rw [h0] at hil;simpa using hil
  have HB:Hid (Calls Tryz.prog 86 #[.slice none 0 0,.int .i64 a] w fun e w'=>e = .returned (.tuple #[.int .i64 0,.bool false])∧∃ q,w'=w.drewN q):=Lib.hid ((Any.slices_BinarySearch_int_empty Tryz.laysNm225 none 0 a w).mono fun e w' h=>⟨h.1,0,h.2⟩)
  have H0:=Lib.hid h0
  clear c0 c1 c2 c3 c5 z h hs hn hv hi hil hi0 h0
  go_enter Tryz.func46,Tryz.ntmps46
  go_wp2_with fail
  refine HB.out.mono ?_
  rintro e w1 ⟨rfl,q,rfl⟩
  go_wp2_with fail
  go_ret
  exact ⟨_,rfl,by rw [H0.out];exact ⟨none,0,by simp,.inl (by simp)⟩,⟨none,0,0,rfl,Nat.le_refl _⟩,q,rfl⟩
 ·rw [hv] at c4
  have HB:=Lib.hid (Tryz.slices_BinarySearch_int g o t.ids.length c t.ids a w (Nat.le_refl _) (by omega) (fun j hj=>hcell j hj) (by rw [List.take_length];exact hs))
  rw [List.take_length,show t.ids.countP (· < a)=i from hi.symm] at HB
  obtain ⟨bb,hbb⟩:∃ bb,t.ids.contains a=bb:=⟨_,rfl⟩
  rw [hbb] at HB
  obtain ⟨n,hn'⟩:∃ n,n=t.ids.length:=⟨_,rfl⟩
  rw [←hn'] at c4 HB hil hn hc
  have HV:Hid (Ints w (.slice (some ⟨g,o+i,none⟩) (n - i) (c - i)) (t.ids.drop i)):=Lib.hid ⟨_,_,by rw [List.length_drop,hn'],.inr ⟨g,o+i,rfl,fun j hj=>by
   rw [List.length_drop] at hj
   rw [Nat.add_assoc,hcell (i+j) (by omega)]
   simp [List.getD_eq_getElem?_getD,List.getElem?_drop]⟩⟩
  rw [←hi]
  have HNL:=Lib.hid hn'
  clear c0 c1 c2 c3 c5 z h hs hv hi hcell hbb hn'
  go_enter Tryz.func46,Tryz.ntmps46
  go_wp2_with fail
  refine HB.out.mono ?_
  rintro e w1 ⟨rfl,q,rfl⟩
  go_wp2_with fail
  ·go_ret
   refine ⟨_,rfl,?_,⟨_,_,_,rfl,by omega⟩,q,rfl⟩
   have hd:n - i=0:=by omega
   have hl0:t.ids.drop i=[]:=by rw [List.drop_eq_nil_iff];have:=HNL.out;omega
   rw [hl0]
   exact ⟨_,_,by rw [hd];rfl,.inl rfl⟩
  ·go_ret
   exact ⟨_,rfl,HV.out,⟨_,_,_,rfl,by omega⟩,q,rfl⟩
attribute [local go_sem] fr_opt
def TapeM.less (t:TapeM) (k:Nat):TapeM:={ t with M:=(t.ids.take k).foldl dropK t.M }
end Go.Proofs.YtajmeimjaapagaaGreatDoor
namespace Go.Proofs.YtajmeimjaapagaaGreatDoor
open Go.RowKit Go.Deep
def ItemOk (p:Nat) (M:MsgM) (bs:List UInt8):Prop:=putO M=some bs∧(p % 1024+bs.length=1024∨p % 1024+bs.length+3≤1024)
def LaidAt:Nat→List (MsgM×List UInt8)→Prop
 | _,[]=>True
 | p,x :: l=>ItemOk p x.1 x.2∧LaidAt (p+x.2.length) l
def bytesI (l:List (MsgM×List UInt8)):List UInt8:=l.flatMap (·.2)
def notesI:Nat→List (MsgM×List UInt8)→List (Int×Int×Int)
 | _,[]=>[]
 | p,x :: l=>(if x.1.kind == 0 then [] else [((p:Int),(x.2.length:Int),x.1.born)]) ++ notesI (p+x.2.length) l
theorem bytesI_cons (x:MsgM×List UInt8) (l:List (MsgM×List UInt8)):bytesI (x :: l)=x.2 ++ bytesI l:=by simp [bytesI]
theorem bytesI_app (l l':List (MsgM×List UInt8)):bytesI (l ++ l')=bytesI l ++ bytesI l':=by simp [bytesI]
theorem laidAt_app {p:Nat} {l l':List (MsgM×List UInt8)}:LaidAt p (l ++ l')↔LaidAt p l∧LaidAt (p+(bytesI l).length) l':=by
 induction l generalizing p with
 | nil=>simp [LaidAt,bytesI]
 | cons x l ih=>
  show ItemOk p x.1 x.2∧LaidAt (p+x.2.length) (l ++ l')↔(ItemOk p x.1 x.2∧LaidAt (p+x.2.length) l)∧_
  rw [ih,bytesI_cons,List.length_append,Nat.add_assoc,and_assoc]
theorem notesI_app (p:Nat) (l l':List (MsgM×List UInt8)):notesI p (l ++ l')=notesI p l ++ notesI (p+(bytesI l).length) l':=by
 induction l generalizing p with
 | nil=>simp [notesI,bytesI]
 | cons x l ih=>
  show _ ++ notesI (p+x.2.length) (l ++ l')=_
  rw [ih,bytesI_cons,List.length_append,←Nat.add_assoc,←List.append_assoc]
  rfl
theorem laid_len {p:Nat} {x:MsgM×List UInt8} {l:List (MsgM×List UInt8)} (h:LaidAt p (x :: l)):3≤x.2.length:=by
 have:=(put_get h.1.1 []).2.1
 exact this
theorem laidAt_mod {p q:Nat} (h:p % 1024=q % 1024):∀ {l:List (MsgM×List UInt8)},LaidAt p l→LaidAt q l
 | [],_=>trivial
 | x :: l,hl=>by
  have h3:=hl.1
  refine ⟨⟨h3.1,by rw [←h];exact h3.2⟩,?_⟩
  exact laidAt_mod (p:=p+x.2.length) (q:=q+x.2.length) (by omega) hl.2
theorem notesI_ge {p:Nat} {l:List (MsgM×List UInt8)}:∀ x∈notesI p l,(p:Int)≤x.1:=by
 induction l generalizing p with
 | nil=>intro x hx;cases hx
 | cons y l ih=>
  intro x hx
  rcases List.mem_append.1 hx with h|h
  ·split at h
   ·cases h
   ·rw [List.mem_singleton] at h
    rw [h]
    exact Int.le_refl _
  ·have:=ih x h
   omega
theorem notesI_lt {p:Nat} {l:List (MsgM×List UInt8)} (hl:LaidAt p l):∀ x∈notesI p l,x.1+x.2.1≤((p+(bytesI l).length:Nat):Int)∧3≤x.2.1:=by
 induction l generalizing p with
 | nil=>intro x hx;cases hx
 | cons y l ih=>
  intro x hx
  have h3:=laid_len hl
  rw [bytesI_cons,List.length_append]
  rcases List.mem_append.1 hx with h|h
  ·split at h
   ·cases h
   ·rw [List.mem_singleton] at h
    rw [h]
    dsimp only
    omega
  ·have:=ih hl.2 x h
   omega
theorem notesI_sorted {p:Nat} {l:List (MsgM×List UInt8)} (hl:LaidAt p l):((notesI p l).map (·.1)).Pairwise (· < ·):=by
 induction l generalizing p with
 | nil=>exact List.Pairwise.nil
 | cons y l ih=>
  have h3:=laid_len hl
  show ((_ ++ notesI (p+y.2.length) l).map (·.1)).Pairwise (· < ·)
  rw [List.map_append,List.pairwise_append]
  refine ⟨?_,ih hl.2,fun a ha b hb=>?_⟩
  ·split
   ·exact List.Pairwise.nil
   ·exact List.pairwise_singleton _ _
  ·obtain ⟨x,hx,rfl⟩:=List.mem_map.1 hb
   have:=notesI_ge x hx
   split at ha
   ·cases ha
   ·rw [List.map_cons,List.map_nil,List.mem_singleton] at ha
    omega
theorem getK_drop (M:List (Int×Int)) (a k:Int):getK (dropK M a) k=if k=a then none else getK M k:=by
 unfold getK dropK
 rw [List.find?_filter]
 by_cases h:k=a
 ·rw [if_pos h]
  rw [List.find?_eq_none.2 (fun p _=>by simp;intro h1 h2;exact h1 (h2.trans h))]
  rfl
 ·rw [if_neg h]
  congr 1
  congr 1
  funext p
  by_cases hp:p.1=k
  ·simp [hp,h]
  ·simp [hp]
theorem getK_put (M:List (Int×Int)) (a b k:Int):getK (dropK M a ++ [(a,b)]) k=if k=a then some b else getK M k:=by
 have hd:=getK_drop M a k
 unfold getK at hd ⊢
 rw [List.find?_append,Option.map_or,hd]
 by_cases h:k=a
 ·rw [if_pos h,if_pos h];simp [h]
 ·rw [if_neg h,if_neg h]
  have:¬ a=k:=fun e=>h e.symm
  simp [this]
structure TapeN (t:TapeM) (N:List (Int×Int×Int)):Prop where
 ids:t.ids=N.map (·.1)
 siz:∀ x∈N,getK t.M x.1=some x.2.1
 non:∀ k,(∀ x∈N,x.1≠k)→getK t.M k=none
 last:∀ x,N.getLast? = some x→t.last=x.2.2
 ml:t.M.length≤N.length
theorem TapeN.noted {t:TapeM} {N:List (Int×Int×Int)} (h:TapeN t N) (v:Value) (id size born:Int) (hn:∀ x∈N,x.1≠id):TapeN (t.noted v id size born) (N ++ [(id,size,born)]):=by
 refine ⟨by simp [TapeM.noted,h.ids],fun x hx=>?_,fun k hk=>?_,fun x hx=>?_,?_⟩
 ·show getK (dropK t.M id ++ [(id,size)]) x.1=_
  rw [getK_put]
  rcases List.mem_append.1 hx with h1|h1
  ·rw [if_neg (hn x h1)]
   exact h.siz x h1
  ·rw [List.mem_singleton] at h1
   rw [h1,if_pos rfl]
 ·show getK (dropK t.M id ++ [(id,size)]) k=_
  rw [getK_put,if_neg (fun e=>hk (id,size,born) (by simp) e.symm)]
  exact h.non k (fun x hx=>hk x (List.mem_append_left _ hx))
 ·rw [List.getLast?_append] at hx
  simp at hx
  rw [←hx]
  rfl
 ·show (dropK t.M id ++ [(id,size)]).length≤_
  rw [List.length_append,List.length_append]
  have:(dropK t.M id).length≤t.M.length:=List.length_filter_le ..
  have:=h.ml
  simp
  omega
structure TapeI (w0 w:World) (tb:Nat) (t:TapeM) (g:Gh) (st:St) (m:RowM) (n i0 j:Nat) (l:List (MsgM×List UInt8)):Prop where
 tg:TapeG w0 w tb t g st m
 rc:RowC n m st 1024 i0 j (bytesI l)
 hd:m.head=tH
 la:LaidAt 0 l
 tn:TapeN t (notesI (1024*i0) l)
theorem TapeI.new {w0 w w':World} {tb:Nat} {t:TapeM} {g:Gh} {st:St} {m:RowM} {n i0 j:Nat} {l:List (MsgM×List UInt8)} (h:TapeI w0 w tb t g st m n i0 j l) (hc:Chg (fun _=>False) w w'):TapeI w0 w' tb t g st m n i0 j l:={ h with tg:=h.tg.new hc }
theorem TapeI.la' {w0 w:World} {tb:Nat} {t:TapeM} {g:Gh} {st:St} {m:RowM} {n i0 j:Nat} {l:List (MsgM×List UInt8)} (h:TapeI w0 w tb t g st m n i0 j l):LaidAt (1024*i0) l:=laidAt_mod (p:=0) (q:=1024*i0) (by omega) h.la
theorem TapeI.sorted {w0 w:World} {tb:Nat} {t:TapeM} {g:Gh} {st:St} {m:RowM} {n i0 j:Nat} {l:List (MsgM×List UInt8)} (h:TapeI w0 w tb t g st m n i0 j l):t.ids.Pairwise (· < ·):=by
 rw [h.tn.ids]
 exact notesI_sorted h.la'
theorem notesI_len (p:Nat) (l:List (MsgM×List UInt8)):(notesI p l).length≤l.length:=by
 induction l generalizing p with
 | nil=>exact Nat.le_refl _
 | cons x l ih=>
  show (_ ++ notesI _ l).length≤_
  have:=ih (p+x.2.length)
  rw [List.length_append,List.length_cons]
  split<;>simp<;>omega
def itemsA (r:Nat) (M:MsgM) (bs:List UInt8):List (MsgM×List UInt8):=(if tfill r bs.length=[] then [] else [(fillM r,tfill r bs.length)]) ++ [(M,bs)]
theorem itemsA_bytes (r:Nat) (M:MsgM) (bs:List UInt8):bytesI (itemsA r M bs)=tfill r bs.length ++ bs:=by
 unfold itemsA
 split
 ·rename_i h;rw [h];simp [bytesI]
 ·simp [bytesI]
theorem itemsA_laid {i0:Nat} {all:List UInt8} {M:MsgM} {bs:List UInt8} (hp:putO M=some bs) (hl:bs.length≤327) (hok:all.length % 1024≤1021):LaidAt all.length (itemsA (roomT i0 all) M bs)∧notesI (1024*i0+all.length) (itemsA (roomT i0 all) M bs)=if M.kind == 0 then [] else [(((1024*i0+all.length+(tfill (roomT i0 all) bs.length).length:Nat):Int),(bs.length:Int),M.born)]:=by
 have hr:roomT i0 all=1024 - all.length % 1024:=by unfold roomT;omega
 unfold itemsA
 by_cases h1:roomT i0 all=bs.length∨bs.length+3≤roomT i0 all
 ·have ht:tfill (roomT i0 all) bs.length=[]:=by unfold tfill;rw [if_pos h1]
  rw [ht,if_pos rfl]
  refine ⟨⟨⟨hp,?_⟩,trivial⟩,?_⟩
  ·dsimp only
   omega
  ·show _ ++ []=_
   rw [List.append_nil]
   simp
 ·have h3:3≤roomT i0 all:=by omega
  have h4:roomT i0 all≤1024:=by omega
  have ht:tfill (roomT i0 all) bs.length=fillB (roomT i0 all):=by unfold tfill;rw [if_neg h1,if_pos h3]
  have hfl:=fillB_length (roomT i0 all) h3
  have hne:¬ fillB (roomT i0 all)=[]:=fun e=>by rw [e] at hfl;simp at hfl;omega
  rw [ht,if_neg hne]
  refine ⟨⟨⟨putO_fill _ h3 h4,?_⟩,⟨hp,?_⟩,trivial⟩,?_⟩
  ·dsimp only
   omega
  ·dsimp only
   omega
  ·show (if (fillM (roomT i0 all)).kind == 0 then [] else _) ++ (_ ++ [])=_
   rw [show ((fillM (roomT i0 all)).kind == 0)=true from rfl,if_pos rfl,List.nil_append,List.append_nil]
theorem TapeI.app {w0 w w':World} {tb:Nat} {t:TapeM} {g:Gh} {st:St} {m:RowM} {n i0 j:Nat} {l:List (MsgM×List UInt8)} (h:TapeI w0 w tb t g st m n i0 j l) (hok:(bytesI l).length % 1024≤1021) {M:MsgM} {bs:List UInt8} (hk:M.kind≠0) (hp:putO M=some bs)
 {F S:ByteArray} (hF:F=⟨(tfill (roomT i0 (bytesI l)) bs.length).toArray⟩) (hS:S=⟨bs.toArray⟩)
 (ha:TAppTo w0 w tb t g st m (n+4) i0 (bytesI l) (F.data.toList ++ S.data.toList) ((1024*i0+(bytesI l).length+F.size:Nat):Int) S.size M.born w') :
 ∃ t' g' m' st' j',TapeI w0 w' tb t' g' st' m' (n+4) i0 j' (l ++ itemsA (roomT i0 (bytesI l)) M bs)∧g'.d=g.d∧m'.synced=m.synced∧st'.size=st.size+F.size+S.size∧st'.cap=st.cap∧Chg (fun q=>q∈t.foot tb∨q=t.rb∨q∈g.fp) w w'∧(∀ q∈g'.fp,q∈g.fp∨w.heap.size≤q)∧t'.rb=t.rb∧t'.ids=t.ids ++ [((1024*i0+(bytesI l).length+F.size:Nat):Int)]∧∀ q∈t'.foot tb,q∈t.foot tb∨w.heap.size≤q:=by
 obtain ⟨g',m',st',v',j',h1,h2,h3,h4,h5,h6,h7,h8,h9,h10,h11⟩:=ha
 obtain ⟨_,l327⟩:=putO_len hk hp
 obtain ⟨i1,i2⟩:=itemsA_laid (i0:=i0) hp l327 hok
 have hb:bytesI (l ++ itemsA (roomT i0 (bytesI l)) M bs)=bytesI l ++ (F.data.toList ++ S.data.toList):=by
  rw [bytesI_app,itemsA_bytes,hF,hS]
 have hFs:F.size=(tfill (roomT i0 (bytesI l)) bs.length).length:=by rw [hF,sizeL]
 have hSs:S.size=bs.length:=by rw [hS,sizeL]
 have hla:=h.la'
 have hall:LaidAt 0 (l ++ itemsA (roomT i0 (bytesI l)) M bs):=laidAt_app.2 ⟨h.la,by rw [Nat.zero_add];exact i1⟩
 refine ⟨_,g',m',st',j',⟨h1,by rw [hb];exact h5,by rw [h3];exact h.hd,hall,?_⟩,h2,h4,?_,h7,h9,h10,rfl,rfl,h11⟩
 ·rw [notesI_app,i2,if_neg (by simpa using hk),←hFs,←hSs]
  refine h.tn.noted v' _ _ _ (fun x hx=>?_)
  have:=notesI_lt hla x hx
  omega
 ·rw [h6,List.length_append,size_toList,size_toList]
  omega
def IntsTo (w:World) (l:List Int) (e:Ending) (w':World):Prop:=∃ v',e = .returned v'∧w'.ownsRow w.heap.size 3 1 v' l.length (l.map (Value.int .i64))∧Below w.heap.size w w'
theorem append_ints {w:World} {base:Nat} {v u:Value} {xs:List Int} (ys:List Int) (hown:w.ownsRow base 3 1 v xs.length (xs.map (Value.int .i64))) (hu:Ints w u ys) (hn:xs.length+ys.length≤2000000) (hb:base≤w.heap.size) (ty:TypeId) :
 ∃ v' w',(Builtin.append_ #[52,52] ty #[v,u]).run Tryz.prog w = .ok v' w'∧w'.ownsRow base 3 1 v' (xs ++ ys).length ((xs ++ ys).map (Value.int .i64))∧w.grownBy w' v.ownBlock:=by
 obtain ⟨i0,hi,hz0,hz1,hz2⟩:=info_parts info_num
 obtain ⟨a,cap,rfl,h⟩:=hu
 rw [List.length_append,List.map_append]
 cases a with
 | none=>
  have h0:ys=[]:=by
   rcases h with h|⟨b,o,h,_⟩
   ·exact h
   ·cases h
  subst h0
  refine ⟨v,w,?_,by simpa using hown,grownBy_refl _ _⟩
  rcases hown.2 with ⟨rfl,hx⟩|⟨g,cap,cur,rfl,_,_,hnc,_⟩
  ·simp [Builtin.append_,run_underlying Tryz.underlying52,sizeOf,typeInfo,hi,Builtin.lenOf,Builtin.firstCells]
  ·simp [Builtin.append_,run_underlying Tryz.underlying52,sizeOf,typeInfo,hi,Builtin.lenOf,Builtin.firstCells,hnc,storeCells]
 | some a=>
  have hc:∀ j u,(ys.map (Value.int .i64))[j]? = some u→w.cell? (a.add j)=some u:=by
   intro j u hj
   have hlt:j<ys.length:=by
    have:=(List.getElem?_eq_some_iff.1 hj).1
    simpa using this
   rcases h with h|⟨b,o,h,h2⟩
   ·subst h;simp at hlt
   ·cases h
    rw [add_none,h2 j hlt]
    rw [List.getElem?_map,List.getElem?_eq_getElem hlt] at hj
    simp only [Option.map_some,Option.some.injEq] at hj
    rw [←hj,List.getD_eq_getElem?_getD,List.getElem?_eq_getElem hlt]
    rfl
  obtain ⟨v',w',h1,h2,h3,_⟩:=run_append_own (P:=Tryz.prog) w base 52 ty 3 i0 (.int .i64 0) 1 8 Tryz.underlying52 hi hz0 hz1 hz2 rfl (by decide) v xs.length (xs.map (Value.int .i64)) hown a ys.length cap (ys.map (Value.int .i64)) (by simp) hc (by
   intro u hu
   obtain ⟨t,_,rfl⟩:=List.mem_map.1 hu
   rfl) (by unfold maxLen;omega) (by omega) hb
  exact ⟨v',w',h1,h2,h3⟩
theorem wpList_append_ints {w:World} {ops:Array Oper} {rest:List Oper} {o:Oper} {a:Act} {Q:Exit→Act→World→Prop} (hgd:o.guard=none) (sl x:Operand)
 (ho:o.op = .call { callee:=.builtin .append,args:=#[sl,x],argTypes:=#[52,52]})
 (base:Nat) (v u:Value) (xs ys:List Int) (hs:a.eval sl=v) (hx:a.eval x=u) (hown:w.ownsRow base 3 1 v xs.length (xs.map (Value.int .i64))) (hu:Ints w u ys) (hn:xs.length+ys.length≤2000000) (hbase:base≤w.heap.size)
 (h:∀ v' w',w'.ownsRow base 3 1 v' (xs ++ ys).length ((xs ++ ys).map (Value.int .i64))→w.grownBy w' v.ownBlock→wpList Tryz.prog ops Q rest (a.put o.dst v') w'):wpList Tryz.prog ops Q (o :: rest) a w:=by
 refine wpList_plain hgd fun K hK=>?_
 obtain ⟨v',w',hr,h2,h3⟩:=append_ints (w:=w) (u:=u) ys hown hu hn hbase o.type
 unfold Oper.wp execOp
 simp only [ho,resolve,invoke,builtin,Sem.run_bind,Sem.run_pure,Result.andThen_ok,List.map_toArray,List.map_cons,List.map_nil,hs,hx,hr]
 exact hK _ _ (h v' w' h2 h3)
theorem iclone_any (v:Value) (l:List Int) (w:World) (h:Ints w v l) (hl:l.length≤1000000) :
 Calls Tryz.prog 45 #[v] w (IntsTo w l):=by
 obtain ⟨a,c,rfl,h'⟩:=id h
 cases a with
 | none=>
  have h0:l=[]:=by
   rcases h' with h|⟨b,o,h,_⟩
   ·exact h
   ·cases h
  subst h0
  have hnil:=fun W=>Lib.run_eql_slice_nil (P:=Tryz.prog) W 52 3 none 0 c 0 0 Tryz.underlying52
  clear h h'
  go_enter Tryz.func45,Tryz.ntmps45
  go_wp2_with fail
  go_ret
  exact ⟨_,rfl,World.ownsRow_nil _ _ _ _,Below.refl _ _⟩
 | some a=>
  obtain ⟨n,hn⟩:∃ n,n=l.length:=⟨_,rfl⟩
  rw [←hn] at h
  rw [←hn]
  have hnil:=fun W=>Lib.run_eql_slice_nil (P:=Tryz.prog) W 52 3 (some a) n c 0 0 Tryz.underlying52
  have H:=Lib.hid h
  have HN:=Lib.hid hn
  clear h h' hn
  go_enter Tryz.func45,Tryz.ntmps45
  go_wp2_with (at_builtin;with_reducible refine wpList_append_ints rfl (.tmp 5) (.tmp 6) rfl w.heap.size (.slice (some ⟨w.heap.size,0,none⟩) 0 0) _ [] l rfl rfl ?c1 ?c2 ?c3 ?c4 ?c5)
  case c1=>exact World.ownsRow_made w #[] 0 (Nat.le_refl _) (Nat.zero_le _) rfl
  case c2=>exact H.out.below ((Below.refl _ _).alloc (Nat.le_refl _) _) (Nat.le_refl _)
  case c3=>simp;omega
  case c4=>simp [go_sem]
  case c5=>
   intro v' w' ho hg
   have HO:=Lib.hid ho
   have HB:Hid (Below w.heap.size w w'):=Lib.hid (((Below.refl _ _).alloc (Nat.le_refl _) _).grown hg (by simp [go_sem]) (fun k hk=>by simp [Value.ownBlock] at hk;omega))
   clear ho hg
   go_wp2_with fail
   go_ret
   exact ⟨_,rfl,HO.out,HB.out⟩
theorem tids_any {w0 w:World} {tb d:Nat} {t:TapeM} (h:TapeAt w0 w tb d t) (hs:t.ids.Pairwise (·≤·)) (hn:t.ids.length≤1000000) (a:Int) :
 Calls Tryz.prog 18 #[.pointer (some ⟨tb,0,none⟩),.int .i64 a] w (IntsTo w (t.ids.drop (lowN t.ids a))):=by
 have HF:=Lib.hid (tfrom_any h hs hn a)
 obtain ⟨l,hl⟩:∃ l,l=t.ids.drop (lowN t.ids a):=⟨_,rfl⟩
 have hll:l.length≤1000000:=by rw [hl,List.length_drop];omega
 rw [←hl] at HF ⊢
 clear h hs hn hl
 go_enter Tryz.func18,Tryz.ntmps18
 go_wp2_with fail
 refine HF.out.mono ?_
 rintro e w1 ⟨v',rfl,hv,_,q,rfl⟩
 obtain ⟨a',c',hv'⟩:=id hv
 have HV:=Lib.hid hv
 have hC:=iclone_any v' l (w.drewN q) (by exact hv) hll
 obtain ⟨ve,_⟩:=hv'
 rw [ve] at hC ⊢
 have HC:=Lib.hid hC
 clear hC hv ve
 go_wp2_with fail
 refine HC.out.mono ?_
 rintro e w2 ⟨v2,rfl,ho,hb⟩
 go_wp2_with fail
 go_ret
 exact ⟨_,rfl,ho,(below_drewN (Below.refl w.heap.size w) q).trans hb⟩
theorem le_of_lt' {l:List Int} (h:l.Pairwise (· < ·)):l.Pairwise (·≤·):=h.imp (fun h=>Int.le_of_lt h)
theorem TapeI.read {w0 w:World} {tb:Nat} {t:TapeM} {g:Gh} {st:St} {m:RowM} {n i0 j:Nat} {l1 l2:List (MsgM×List UInt8)} {M:MsgM} {bs:List UInt8} (h:TapeI w0 w tb t g st m n i0 j (l1 ++ (M,bs) :: l2)) (hk:M.kind≠0) (hal:1024*i0+(bytesI l1).length≤9000000000) :
 Calls Tryz.prog 26 #[.pointer (some ⟨tb,0,none⟩),.int .i64 ((1024*i0+(bytesI l1).length:Nat):Int)] w (ReadTo M 0 w):=by
 obtain ⟨h1,h2⟩:=laidAt_app.1 h.la
 rw [Nat.zero_add] at h2
 have hit:=h2.1
 have hb:bytesI (l1 ++ (M,bs) :: l2)=bytesI l1 ++ (bs ++ bytesI l2):=by rw [bytesI_app,bytesI_cons]
 have hit2:(bytesI l1).length % 1024+bs.length=1024∨(bytesI l1).length % 1024+bs.length+3≤1024:=hit.2
 have hmem:(((1024*i0+(bytesI l1).length:Nat):Int),(bs.length:Int),M.born)∈notesI (1024*i0) (l1 ++ (M,bs) :: l2):=by
  rw [notesI_app]
  refine List.mem_append_right _ ?_
  show _∈(if M.kind == 0 then [] else _) ++ _
  rw [if_neg (by simpa using hk)]
  exact List.mem_append_left _ (List.mem_singleton.2 rfl)
 have hsz:=h.tn.siz _ hmem
 refine tread_ok h.tg h.rc (1024*i0+(bytesI l1).length) hal M bs hit.1 (by omega) ?_ (by omega) ?_ (by rw [hsz];rfl)
 ·rw [hb,List.length_append,List.length_append]
  omega
 ·rw [hb,show 1024*i0+(bytesI l1).length - 1024*i0=(bytesI l1).length from by omega,List.drop_left,List.take_left]
end Go.Proofs.YtajmeimjaapagaaGreatDoor
