/- A part. -/
import Derived.Sort.KeysCollected
import Derived.Test.YtajmeimjaapagaaGreatDoorDor52
set_option linter.unusedVariables false
set_option linter.unusedSimpArgs false
namespace Go.Proofs.YtajmeimjaapagaaGreatDoor
open Go.RowKit Go.Deep
attribute [local go_sem] fr_opt
theorem cell_set_out {w:World} {p q:Addr} (h:q.block≠p.block) (v:Value):(w.setCell p v).cell? q=w.cell? q:=World.cell?_of_block (Below.heap_setCell _ _ _ _ h)
theorem cell_set_in {w:World} {p:Addr} {u:Value} (h:w.cell? p=some u) (v:Value):(w.setCell p v).cell? p=some v:=World.cell?_setCell_same _ _ _ h
def takeR (m:RowM) (first:Bool) (a l:Nat):RowM×Bool×Bool:=
 if (a:Int) % m.size≠0∨m.size<l then (m,first,false)
 else if first=true then ({ m with begin_:=a,end_:=a+l,next:=a+m.size },false,true)
 else if (a:Int)≠m.end_ then (m,false,false)
 else ({ m with end_:=a+l,next:=a+m.size },false,true)
def TakeTo (b d P F:Nat) (w:World) (r:RowM×Bool×Bool) (e:Ending) (w':World):Prop:=
 e = .returned (.bool r.2.2)∧RowAt w' b d r.1∧w'.cell? ⟨F,0,none⟩=some (.bool r.2.1)∧w'.frozen? ⟨F,0,none⟩=false∧Chg (fun k=>k=b∨k=F) w w'
set_option maxHeartbeats 1000000 in
set_option maxRecDepth 100000 in
theorem take_any (b d P F:Nat) (m:RowM) (first:Bool) (a l:Nat) (w:World) (hr:RowAt w b d m) (hp:w.cell? ⟨P,0,none⟩=some (.pointer (some ⟨b,0,none⟩))) (hF:w.cell? ⟨F,0,none⟩=some (.bool first)) (hz:w.frozen? ⟨F,0,none⟩=false)
 (h1:P≠b) (h2:F≠b) (h3:P≠F) (ha:a≤99999999) (hl:l≤1099511627776) (hs1:16≤m.size) (hs2:m.size≤4096) :
 Calls Tryz.prog 191 #[.int .i64 a,.int .i64 l,.pointer (some ⟨P,0,none⟩),.pointer (some ⟨F,0,none⟩)] w (TakeTo b d P F w (takeR m first a l)):=by
 obtain ⟨c0,c1,c2,c3,c4,c5,c6,c7,z⟩:=hr.cell
 have z3:=z 3
 have z4:=z 4
 have z5:=z 5
 have HR:=Lib.hid hr
 clear z hr
 obtain ⟨head,size,begin_,end_,next,synced,touched⟩:=m
 simp only at *
 have hne:¬ size=0:=by omega
 have hneb:(size == 0)=false:=by simpa using hne
 unfold takeR
 simp only
 have hw1:IntKind.i64.wrap ((a:Int)+l)=a+l:=IntWalk.i64_in _ (by omega)
 have hw2:IntKind.i64.wrap ((a:Int)+size)=a+size:=IntWalk.i64_in _ (by omega)
 by_cases ht:(a:Int) % size=0
 ·by_cases hl2:size<(l:Int)
  ·rw [if_pos (.inr hl2)]
   have hb:((a:Int) % size != 0)=false:=by simp [ht]
   clear ht
   go_enter Tryz.func191,Tryz.ntmps191
   go_wp2_with fail
   go_ret
   exact ⟨rfl,HR.out,hF,hz,Chg.refl _ _⟩
  ·rw [if_neg (fun h=>h.elim (fun h=>h ht) hl2)]
   have hb:((a:Int) % size != 0)=false:=by simp [ht]
   clear ht
   cases first with
   | true=>
    rw [if_pos rfl]
    go_enter Tryz.func191,Tryz.ntmps191
    go_wp2_with fail
    go_region
    go_wp2_with fail
    go_ret
    have r1:=HR.out.set 3 (.int .i64 a) ⟨head,size,a,end_,next,synced,touched⟩ rfl
    have r2:=r1.chg (Chg.setCell (S:=fun k=>k=F) (Chg.refl _ _) (p:=⟨F,0,none⟩) (fun _=>rfl) (.bool false)) (fun hx=>h2 hx.symm)
    have r3:=r2.set 4 (.int .i64 (a+l)) ⟨head,size,a,a+l,next,synced,touched⟩ rfl
    have r4:=r3.set 5 (.int .i64 (a+size)) ⟨head,size,a,a+l,a+size,synced,touched⟩ rfl
    refine ⟨rfl,r4,?_,?_,?_⟩
    ·refine (cell_set_out h2 _).trans ((cell_set_out h2 _).trans ?_)
     have hF':(w.setCell ⟨b,3,none⟩ (.int .i64 a)).cell? ⟨F,0,none⟩=some (.bool true):=(cell_set_out h2 _).trans hF
     exact cell_set_in hF' _
    ·simp [hz]
    ·exact (Chg.setCell (Chg.setCell (Chg.setCell (Chg.setCell (Chg.refl _ _) (fun _=>.inl rfl) _) (fun _=>.inr rfl) _) (fun _=>.inl rfl) _) (fun _=>.inl rfl) _).drew
   | false=>
    rw [if_neg (by simp)]
    by_cases he:(a:Int)=end_
    ·rw [if_neg (fun h=>h he)]
     have hb2:((a:Int) != end_)=false:=by simp [he]
     have HE:=Lib.hid he
     clear he
     go_enter Tryz.func191,Tryz.ntmps191
     go_wp2_with fail
     go_region
     go_wp2_with fail
     go_ret
     have r3:=HR.out.set 4 (.int .i64 (a+l)) ⟨head,size,begin_,a+l,next,synced,touched⟩ rfl
     have r4:=r3.set 5 (.int .i64 (a+size)) ⟨head,size,begin_,a+l,a+size,synced,touched⟩ rfl
     refine ⟨rfl,r4,?_,?_,?_⟩
     ·exact (cell_set_out h2 _).trans ((cell_set_out h2 _).trans hF)
     ·simp [hz]
     ·exact (Chg.setCell (Chg.setCell (Chg.refl _ _) (fun _=>.inl rfl) _) (fun _=>.inl rfl) _).drew
    ·rw [if_pos he]
     have hb2:((a:Int) != end_)=true:=by simp [he]
     have HE:=Lib.hid he
     clear he
     go_enter Tryz.func191,Tryz.ntmps191
     go_wp2_with fail
     go_ret
     exact ⟨rfl,HR.out,hF,hz,Chg.refl _ _⟩
 ·rw [if_pos (.inl ht)]
  have hb:((a:Int) % size != 0)=true:=by simp [ht]
  clear ht
  go_enter Tryz.func191,Tryz.ntmps191
  go_wp2_with fail
  go_ret
  exact ⟨rfl,HR.out,hF,hz,Chg.refl _ _⟩
end Go.Proofs.YtajmeimjaapagaaGreatDoor
namespace Go.Proofs.YtajmeimjaapagaaGreatDoor
open Go.RowKit Go.Deep
theorem place_name (head:ByteArray) (u:Nat) (hu:u≤99999999):placeB head (nameB head u)=some u:=by
 have h1:Lib.hasPrefix (nameB head u).data.toList head.data.toList=true:=by
  rw [nameB_toList]
  simp [Lib.hasPrefix]
 have h2:Lib.trimPrefix (nameB head u).data.toList head.data.toList=dec8 u:=by
  unfold Lib.trimPrefix
  rw [if_pos h1,nameB_toList]
  simp
 unfold placeB
 rw [if_pos h1,h2]
 simp only
 rw [if_pos ⟨dec8_length u,fun b hb=>dec8_dig u b hb⟩,val8_dec8 u (by omega)]
theorem name_place {head s:ByteArray} {v:Nat} (h:placeB head s=some v):nameB head v=s∧v≤99999999:=by
 unfold placeB at h
 split at h
 ·rename_i hp
  simp only at h
  split at h
  ·rename_i hd
   have hv:=dec8_val8 hd.1 (fun b hb=>hd.2 b hb)
   obtain rfl:=Option.some.inj h
   refine ⟨?_,by omega⟩
   apply ByteArray.ext
   apply Array.toList_inj.1
   rw [nameB_toList,hv.1]
   unfold Lib.trimPrefix
   rw [if_pos hp]
   unfold Lib.hasPrefix at hp
   have:=List.isPrefixOf_iff_prefix.1 hp
   exact List.prefix_iff_eq_append.1 this
  ·cases h
 ·cases h
attribute [local go_sem] fr_opt
def namesS (head:ByteArray) (st:St):List ByteArray:=(((st.fs.filter fun p=>Lib.hasPrefix p.1.data.toList head.data.toList).map fun p=>p.1.data.toList).mergeSort fun x y=>decide (x≤y)).map fun l=>⟨l.toArray⟩
theorem namesS_length (head:ByteArray) (st:St):(namesS head st).length≤st.fs.length:=by
 unfold namesS
 rw [List.length_map,List.length_mergeSort,List.length_map]
 exact List.length_filter_le _ _
theorem namesS_mem {head:ByteArray} {st:St} {nm:ByteArray} (h:nm∈namesS head st):∃ p∈st.fs,p.1=nm:=by
 unfold namesS at h
 obtain ⟨l,hl,rfl⟩:=List.mem_map.1 h
 rw [List.mem_mergeSort] at hl
 obtain ⟨p,hp,rfl⟩:=List.mem_map.1 hl
 exact ⟨p,(List.mem_filter.1 hp).1,by rw [Array.toArray_toList]⟩
theorem list_strs (g:Gh) (st:St) (head:ByteArray) (w:World) (h:DiskAt w g st) (hn:st.fs.length≤1099511627776) :
 Calls Tryz.prog 110 #[.pointer (some ⟨g.d,0,none⟩),.string head] w fun e w'=>∃ v,e = .returned v∧Strs w' w.heap.size v (namesS head st)∧Below w.heap.size w w':=by
 refine (list_any g st head w h hn).mono ?_
 rintro e w' ⟨v,vis,rfl,hp,ho,hb⟩
 refine ⟨v,rfl,?_,hb⟩
 have h2:(begins head vis).mergeSort (fun x y=>decide (x≤y))=((st.fs.filter fun p=>Lib.hasPrefix p.1.data.toList head.data.toList).map fun p=>p.1.data.toList).mergeSort fun x y=>decide (x≤y):=by
  refine mergeSort_of_perm ?_
  unfold begins
  rw [←h.fs,List.filter_map,List.map_map]
  exact (hp.filter _).map _
 have hl:(begins head vis).length=(namesS head st).length:=by
  unfold namesS
  rw [List.length_map,←h2,List.length_mergeSort]
 rw [h2,hl] at ho
 have he:(((st.fs.filter fun p=>Lib.hasPrefix p.1.data.toList head.data.toList).map fun p=>p.1.data.toList).mergeSort fun x y=>decide (x≤y)).map encStr=(namesS head st).map Value.string:=by
  unfold namesS
  rw [List.map_map]
  rfl
 rw [he] at ho
 rcases ho.2 with ⟨e1,h0⟩|⟨g',cap,cur,e1,hbs,hg,h3,h4,h5,h6⟩
 ·exact ⟨none,0,by rw [e1,h0],.inl (List.length_eq_zero_iff.1 h0)⟩
 ·refine ⟨_,_,e1,.inr ⟨g',0,rfl,hbs,fun i hi=>?_⟩⟩
  rw [Nat.mul_one] at h6
  have h7:(cur.toList.take (namesS head st).length)[i]? = ((namesS head st).map Value.string)[i]?:=by rw [h6]
  rw [List.getElem?_take,if_pos hi,Array.getElem?_toList,List.getElem?_map,List.getElem?_eq_getElem hi] at h7
  simp [World.cell?,hg,h7,List.getD_eq_getElem?_getD,List.getElem?_eq_getElem hi]
def gathF (st:St) (x:RowM×Bool×List ByteArray) (nm:ByteArray):RowM×Bool×List ByteArray:=
 match placeB x.1.head nm with
 | none=>x
 | some a=>((takeR x.1 x.2.1 a (st.len nm)).1,(takeR x.1 x.2.1 a (st.len nm)).2.1,if (takeR x.1 x.2.1 a (st.len nm)).2.2=true then x.2.2 else x.2.2 ++ [nm])
def gathS (st:St) (m:RowM) (l:List ByteArray):RowM×Bool×List ByteArray:=l.foldl (gathF st) (m,true,[])
theorem gathS_snoc (st:St) (m:RowM) (l:List ByteArray) (nm:ByteArray):gathS st m (l ++ [nm])=gathF st (gathS st m l) nm:=by simp [gathS]
theorem takeR_same (m:RowM) (f:Bool) (a l:Nat):(takeR m f a l).1.head=m.head∧(takeR m f a l).1.size=m.size∧(takeR m f a l).1.synced=m.synced∧(takeR m f a l).1.touched=m.touched:=by
 unfold takeR
 split
 ·exact ⟨rfl,rfl,rfl,rfl⟩
 ·split
  ·exact ⟨rfl,rfl,rfl,rfl⟩
  ·split<;>exact ⟨rfl,rfl,rfl,rfl⟩
theorem gathF_same (st:St) (x:RowM×Bool×List ByteArray) (nm:ByteArray):(gathF st x nm).1.head=x.1.head∧(gathF st x nm).1.size=x.1.size∧(gathF st x nm).2.2.length≤x.2.2.length+1∧∀ t∈(gathF st x nm).2.2,t∈x.2.2∨t=nm:=by
 unfold gathF
 split
 ·exact ⟨rfl,rfl,by omega,fun t h=>.inl h⟩
 ·rename_i a _
  have:=takeR_same x.1 x.2.1 a (st.len nm)
  refine ⟨this.1,this.2.1,?_,?_⟩
  ·show (if _=true then x.2.2 else x.2.2 ++ [nm]).length≤_
   split
   ·omega
   ·simp
  ·show ∀ t∈(if _=true then x.2.2 else x.2.2 ++ [nm]),_
   split
   ·exact fun t h=>.inl h
   ·intro t h
    rcases List.mem_append.1 h with h|h
    ·exact .inl h
    ·exact .inr (by simpa using h)
theorem gathL_same (st:St):∀ (l:List ByteArray) (x:RowM×Bool×List ByteArray),(l.foldl (gathF st) x).1.head=x.1.head∧(l.foldl (gathF st) x).1.size=x.1.size∧(l.foldl (gathF st) x).2.2.length≤x.2.2.length+l.length∧∀ t∈(l.foldl (gathF st) x).2.2,t∈x.2.2∨t∈l
 | [],x=>⟨rfl,rfl,Nat.le_refl _,fun t h=>.inl h⟩
 | nm :: l,x=>by
  rw [List.foldl_cons,List.length_cons]
  have h1:=gathF_same st x nm
  have h2:=gathL_same st l (gathF st x nm)
  refine ⟨h2.1.trans h1.1,h2.2.1.trans h1.2.1,by have:=h2.2.2.1;have:=h1.2.2.1;omega,fun t ht=>?_⟩
  rcases h2.2.2.2 t ht with h|h
  ·rcases h1.2.2.2 t h with h|h
   ·exact .inl h
   ·exact .inr (h▸List.mem_cons_self ..)
  ·exact .inr (List.mem_cons_of_mem _ h)
theorem gathS_same (st:St) (m:RowM) (l:List ByteArray):(gathS st m l).1.head=m.head∧(gathS st m l).1.size=m.size∧(gathS st m l).2.2.length≤l.length∧∀ t∈(gathS st m l).2.2,t∈l:=by
 have:=gathL_same st l (m,true,[])
 refine ⟨this.1,this.2.1,by have:=this.2.2.1;rw [List.length_nil,Nat.zero_add] at this;exact this,fun t ht=>?_⟩
 rcases this.2.2.2 t ht with h|h
 ·cases h
 ·exact h
theorem take_one (ts:List ByteArray) {k:Nat} (hk:k<ts.length):ts.take (k+1)=ts.take k ++ [ts.getD k ⟨#[]⟩]:=by
 rw [List.take_add_one,List.getD_eq_getElem?_getD,List.getElem?_eq_getElem hk]
 rfl
def GathTo (b d:Nat) (w:World) (x:RowM×Bool×List ByteArray) (e:Ending) (w':World):Prop:=
 ∃ v,e = .returned v∧RowAt w' b d x.1∧Strs w' w.heap.size v x.2.2∧Chg (fun k=>k=b) w w'
structure GathI (w5:World) (b d F:Nat) (x:RowM×Bool×List ByteArray) (v:Value) (wr:World):Prop where
 row:RowAt wr b d x.1
 fst:wr.cell? ⟨F,0,none⟩=some (.bool x.2.1)
 free:wr.frozen? ⟨F,0,none⟩=false
 chg:Chg (fun j=>j=b∨j=F) w5 wr
 own:wr.ownsRow w5.heap.size 9 1 v x.2.2.length (x.2.2.map Value.string)
theorem frozen_chg {S:Nat→Prop} {w w':World} {p:Addr} {u:Value} (h:w.frozen? p=false) (hc:Chg S w w') (hu:w.cell? p=some u) (hn:¬ S p.block):w'.frozen? p=false:=by
 unfold World.frozen? at h ⊢
 rw [hc.block p.block (World.block_lt_of_cell? _ _ hu) hn]
 exact h
theorem GathI.new {w5:World} {b d F:Nat} {x:RowM×Bool×List ByteArray} {v:Value} {wr w':World} (h:GathI w5 b d F x v wr) (hc:Chg (fun _=>False) wr w'):GathI w5 b d F x v w':=
 ⟨h.row.chg hc (fun x=>x),hc.cell h.fst (fun x=>x),frozen_chg h.free hc h.fst (fun x=>x),h.chg.trans hc (fun _ _ x=>x.elim),hc.row h.own (fun _ _ x=>x)⟩
theorem strs_of_own {w:World} {base:Nat} {v:Value} {ts:List ByteArray} (h:w.ownsRow base 9 1 v ts.length (ts.map Value.string)):Strs w base v ts:=by
 rcases h.2 with ⟨e1,h0⟩|⟨g',cap,cur,e1,hbs,hg,h3,h4,h5,h6⟩
 ·exact ⟨none,0,by rw [e1,h0],.inl (List.length_eq_zero_iff.1 h0)⟩
 ·refine ⟨_,_,e1,.inr ⟨g',0,rfl,hbs,fun i hi=>?_⟩⟩
  rw [Nat.mul_one] at h6
  have h7:(cur.toList.take ts.length)[i]? = (ts.map Value.string)[i]?:=by rw [h6]
  rw [List.getElem?_take,if_pos hi,Array.getElem?_toList,List.getElem?_map,List.getElem?_eq_getElem hi] at h7
  simp [World.cell?,hg,h7,List.getD_eq_getElem?_getD,List.getElem?_eq_getElem hi]
theorem strs_up {w:World} {b b':Nat} {v:Value} {ts:List ByteArray} (h:Strs w b v ts) (hb:b'≤b):Strs w b' v ts:=by
 obtain ⟨a,cap,h1,h2⟩:=h
 refine ⟨a,cap,h1,?_⟩
 rcases h2 with h2|⟨k,o,h3,h4,h5⟩
 ·exact .inl h2
 ·exact .inr ⟨k,o,h3,Nat.le_trans hb h4,h5⟩
set_option maxHeartbeats 4000000 in
set_option maxRecDepth 100000 in
theorem gather_any (b:Nat) (g:Gh) (st:St) (m:RowM) (w:World) (hr:RowAt w b g.d m) (hd:DiskAt w g st) (hb:b∉g.fp) (hl:st.fs.length≤1048576) (hnm:∀ p∈st.fs,p.1.size≤1048576) (hlen:∀ nm,st.len nm≤1099511627776)
 (hs1:16≤m.size) (hs2:m.size≤4096) :
 Calls Tryz.prog 100 #[.pointer (some ⟨b,0,none⟩)] w (GathTo b g.d w (gathS st m (namesS m.head st))):=by
 have hL:∀ W,Chg (fun _=>False) w W→Calls Tryz.prog 110 #[.pointer (some ⟨g.d,0,none⟩),.string m.head] W fun e w'=>∃ v,e = .returned v∧Strs w' W.heap.size v (namesS m.head st)∧Below W.heap.size W w':=fun W hc=>list_strs g st m.head W (hd.new hc) (by omega)
 obtain ⟨c0,c1,c2,c3,c4,c5,c6,c7,hz⟩:=hr.cell
 obtain ⟨W1,hW1⟩:∃ W,W=(w.alloc (.cells #[.pointer (some ⟨b,0,none⟩)] 96)).alloc (.cells #[.bool true] 4):=⟨_,rfl⟩
 have hb1:Below w.heap.size w W1:=by rw [hW1];exact ((Below.refl _ _).alloc (Nat.le_refl _) _).alloc (by simp) _
 obtain ⟨P,hP⟩:∃ P,P=w.heap.size:=⟨_,rfl⟩
 have hbP:b<P:=by rw [hP];exact hr.lt
 have hsz:W1.heap.size=P+2:=by rw [hW1,hP];simp
 have kP:W1.cell? ⟨P,0,none⟩=some (.pointer (some ⟨b,0,none⟩)):=by rw [hW1,hP];simp
 have kF:W1.cell? ⟨P+1,0,none⟩=some (.bool true):=by rw [hW1,hP];simp
 have hFh:W1.heap[P+1]? = some (.cells #[.bool true] 4 (0,0)):=by
  have:=heap_alloc_new (w.alloc (.cells #[.pointer (some ⟨b,0,none⟩)] 96)) (.cells #[.bool true] 4)
  rw [hW1,hP]
  simpa using this
 have zF:W1.frozen? ⟨P+1,0,none⟩=false:=by simp [World.frozen?,hFh]
 have hc1:Chg (fun _=>False) w W1:=Chg.of_below hb1
 have k0:=hc1.cell c0 (fun x=>x)
 have k1:=hc1.cell c1 (fun x=>x)
 have hr1:=hr.chg hc1 (fun x=>x)
 have hd1:=hd.new hc1
 have hfp:∀ k∈g.fp,k<P:=fun k hk=>by rw [hP];exact hd.lt k hk
 obtain ⟨L,hLL⟩:∃ L,L=namesS m.head st:=⟨_,rfl⟩
 have hLm:∀ t∈L,t.size≤1048576:=fun t ht=>by
  obtain ⟨p,hp,rfl⟩:=namesS_mem (hLL▸ht)
  exact hnm p hp
 have hLn:L.length≤1048576:=by rw [hLL];exact Nat.le_trans (namesS_length _ _) hl
 rw [←hLL] at hL ⊢
 obtain ⟨n,hn⟩:∃ n,n=L.length:=⟨_,rfl⟩
 have HN:=Lib.hid hn
 rw [←hn] at hLn
 have HL:=Lib.hid hL
 have HW1:=Lib.hid hW1
 have HB1:=Lib.hid hb1
 have HKP:=Lib.hid kP
 have HKF:=Lib.hid (And.intro kF zF)
 have HR1:=Lib.hid hr1
 have HD1:=Lib.hid hd1
 have HFP:=Lib.hid hfp
 have HLM:=Lib.hid hLm
 have HSZ:=Lib.hid hsz
 have HP:=Lib.hid hP
 have HB:=Lib.hid hb
 have HLEN:=Lib.hid hlen
 obtain ⟨i0,hi,hz0,hz1,hz2⟩:=info_parts info_str
 clear hL hd hr hz c0 c1 c2 c3 c4 c5 c6 c7 hb1 hc1 kP kF zF hFh hr1 hd1 hfp hLm hsz hP hb hlen hLL hn hl hnm
 go_enter Tryz.func100,Tryz.ntmps100
 go_wp2_with (go_at_call 150;refine (taking_any b _).mono ?_)
 rintro e wx ⟨rfl,hwx⟩
 rw [←hW1] at hwx
 subst hwx
 rw [←HP.out]
 clear hW1
 go_wp2_with fail
 go_region_held3 (fun w'=>w'.cell? ⟨b,0,none⟩=some (.pointer (some ⟨g.d,0,none⟩))∧w'.cell? ⟨b,1,none⟩=some (.string m.head))
  (first|exact ⟨k0,k1⟩|go_keep)
  (first
   | (go_at_call 110
      ((with_reducible refine (HL.out _ ?_).mono ?_))
      ·repeat (first|exact Chg.of_below HB1.out|with_reducible refine Chg.drew ?_|with_reducible refine Chg.drewN ?_ _)
      rintro e w5 ⟨lv,rfl,hsv,hb5⟩
      obtain ⟨la,lc,hlv⟩:=hsv.form
      rw [←HN.out] at hlv
      subst hlv
      have k0:=(Chg.of_below (S:=fun _=>False) hb5).cell (p:=⟨b,0,none⟩) k0 (fun x=>x)
      have k1:=(Chg.of_below (S:=fun _=>False) hb5).cell (p:=⟨b,1,none⟩) k1 (fun x=>x)
      have HB5:=Lib.hid hb5
      have HSV:=Lib.hid hsv
      clear hb5 hsv))
 have hc5:Chg (fun _=>False) wx w5:=(Chg.refl _ _).drew.trans (Chg.of_below HB5.out) (fun _ _ x=>x)
 have hi5:GathI w5 b g.d (P+1) (m,true,[]) (.slice none 0 0) w5:=
  ⟨HR1.out.chg hc5 (fun x=>x),hc5.cell HKF.out.1 (fun x=>x),frozen_chg HKF.out.2 hc5 HKF.out.1 (fun x=>x),Chg.refl _ _,World.ownsRow_nil _ _ _ _⟩
 have HC5:=Lib.hid hc5
 have HI5:=Lib.hid hi5
 clear hc5 hi5 k0 k1
 go_wp2_with fail
 go_loopw [4,6,7,8,21] (fun r _ _ _ i wr=>∃ k:Nat,k≤n∧i = .int .i64 k∧∃ v,v=r∧GathI w5 b g.d (P+1) (gathS st m (L.take k)) v wr) (fun _ _ _ _ i _=>n - (intOf i).toNat)
 case atStart=>exact ⟨0,Nat.zero_le _,rfl,_,rfl,by first|exact HI5.out|exact HI5.out.new (Chg.refl _ _).drew|exact HI5.out.new ((Chg.refl _ _).drewN _)⟩
 case round=>
  obtain ⟨k,hk,rfl,v,rfl,hgi⟩:=hrel
  have HGI:=Lib.hid hgi
  clear hgi HI5
  by_cases hlt:k<n
  ·have hlt':k<L.length:=by rw [←HN.out];exact hlt
   obtain ⟨nm,hnm⟩:∃ nm,nm=L.getD k ⟨#[]⟩:=⟨_,rfl⟩
   have hsnoc:=take_one L hlt'
   rw [←hnm] at hsnoc
   have hmem:nm∈L:=by rw [hnm,List.getD_eq_getElem?_getD,List.getElem?_eq_getElem hlt'];exact List.getElem_mem hlt'
   have hns:=HLM.out nm hmem
   obtain ⟨nb,no,rfl,hcell⟩:∃ nb no,la=some ⟨nb,no,none⟩∧wr.cell? ⟨nb,no+k,none⟩=some (.string nm):=by
    obtain ⟨a',cap',e,h⟩:=HSV.out
    cases e
    rcases h with h|⟨nb,no,rfl,hbase,h⟩
    ·rw [h] at hlt';cases hlt'
    ·refine ⟨nb,no,rfl,HGI.out.chg.cell (p:=⟨nb,no+k,none⟩) (by rw [hnm];exact h k hlt') ?_⟩
     have h1:=HSZ.out
     have h2:wx.heap.size≤nb:=hbase
     show ¬ (nb=b∨nb=P+1)
     omega
   have HSN:Hid (gathS st m (L.take (k+1))=gathF st (gathS st m (L.take k)) nm):=by
    show _=_
    rw [hsnoc,gathS_snoc]
   have hsame:=gathS_same st m (L.take k)
   obtain ⟨⟨m1,f1,rs⟩,hx⟩:∃ x,x=gathS st m (L.take k):=⟨_,rfl⟩
   rw [←hx] at HGI HSN hsame
   simp only at hsame
   obtain ⟨e1,e2,e3,-⟩:=hsame
   have hrl:rs.length≤1048576:=by rw [List.length_take] at e3;omega
   obtain ⟨c0,c1,c2,c3,c4,c5,c6,c7,hz⟩:=HGI.out.row.cell
   simp only at c0 c1
   rw [e1] at c1
   have HE:=Lib.hid (And.intro e1 e2)
   clear hsnoc hmem hnm hx e1 e2 e3 c2 c3 c4 c5 c6 c7 hz hlt'
   cases hp:placeB m.head nm with
   | none=>
    have hPL:Calls Tryz.prog 151 #[.string m.head,.string nm] wr (PlaceTo m.head nm wr):=place_any m.head nm wr (by omega)
    unfold PlaceTo at hPL
    rw [hp] at hPL
    simp only [Option.getD_none,Option.isSome_none] at hPL
    have HPL:=Lib.hid hPL
    have HX:Hid (gathS st m (L.take (k+1))=(m1,f1,rs)):=by
     show _=_
     rw [HSN.out]
     unfold gathF
     simp only [HE.out.1]
     rw [hp]
    clear hPL hp
    go_wp2_with (go_at_call 151;refine HPL.out.mono ?_;rintro e w6 ⟨rfl,hb6⟩)
    have hg6:=HGI.out.new (Chg.of_below hb6)
    refine ⟨⟨k+1,by omega,by go_num,v,rfl,?_⟩,by simp [intOf];omega⟩
    rw [HX.out]
    first|exact hg6|exact hg6.new (Chg.refl _ _).drew|exact hg6.new ((Chg.refl _ _).drewN _)
   | some a=>
    have ha:=(name_place hp).2
    have hPL:Calls Tryz.prog 151 #[.string m.head,.string nm] wr (PlaceTo m.head nm wr):=place_any m.head nm wr (by omega)
    unfold PlaceTo at hPL
    rw [hp] at hPL
    simp only [Option.getD_some,Option.isSome_some] at hPL
    have HPL:=Lib.hid hPL
    obtain ⟨⟨m2,f2,t⟩,hx2⟩:∃ x2,x2=takeR m1 f1 a (st.len nm):=⟨_,rfl⟩
    have HX:Hid (gathS st m (L.take (k+1))=(m2,f2,if t=true then rs else rs ++ [nm])):=by
     show _=_
     rw [HSN.out]
     unfold gathF
     simp only [HE.out.1]
     rw [hp]
     simp only [←hx2]
    have hFI:=HSZ.out
    have hC5:=HC5.out.size
    obtain ⟨ln,hln⟩:∃ ln,ln=st.len nm:=⟨_,rfl⟩
    have hLE:∀ W,GathI w5 b g.d (P+1) (m1,f1,rs) v W→Calls Tryz.prog 152 #[.pointer (some ⟨g.d,0,none⟩),.string nm] W fun e w'=>e = .returned (.int .i64 ln)∧W=w':=fun W hW=>by
     rw [hln]
     refine len_any g st nm W ((HD1.out.new HC5.out).chg hW.chg (fun q hq hx=>?_)) (by unfold maxLen;omega)
     rcases hx with hx|hx
     ·exact HB.out (hx▸hq)
     ·have:=HFP.out q hq
      omega
    have hTK:∀ W,GathI w5 b g.d (P+1) (m1,f1,rs) v W→Calls Tryz.prog 191 #[.int .i64 a,.int .i64 ln,.pointer (some ⟨P,0,none⟩),.pointer (some ⟨P+1,0,none⟩)] W (TakeTo b g.d P (P+1) W (m2,f2,t)):=fun W hW=>by
     rw [hx2,←hln]
     exact take_any b g.d P (P+1) m1 f1 a ln W hW.row (hW.chg.cell (p:=⟨P,0,none⟩) (HC5.out.cell HKP.out (fun x=>x)) (fun hx=>by simp only at hx;omega)) hW.fst hW.free (by omega) (by omega) (by omega) ha (by rw [hln];exact HLEN.out nm) (by rw [HE.out.2];exact hs1) (by rw [HE.out.2];exact hs2)
    have HLE:=Lib.hid hLE
    have HTK:=Lib.hid hTK
    clear hPL hp hx2 hLE hTK hln hFI hC5
    go_wp2_with (go_at_call 151;refine HPL.out.mono ?_;rintro e w6 ⟨rfl,hb6⟩;have hg6:=HGI.out.new (Chg.of_below hb6);have d0:=hg6.row.cell.1)
    have HG6:=Lib.hid hg6
    clear hb6 hg6 c0 c1 HPL
    go_wp2_with (go_at_call 152;refine (HLE.out _ (by first|exact HG6.out|exact HG6.out.new (Chg.refl _ _).drew|exact HG6.out.new ((Chg.refl _ _).drewN _))).mono ?_;rintro e w7 ⟨rfl,rfl⟩)
    go_wp2_with (go_at_call 191;refine (HTK.out _ (by first|exact HG6.out|exact HG6.out.new (Chg.refl _ _).drew|exact HG6.out.new ((Chg.refl _ _).drewN _))).mono ?_)
    rintro e w8 ⟨rfl,hr8,hf8,hz8,hc8⟩
    simp only at hr8 hf8
    have hlw:w5.heap.size≤w6.heap.size:=HG6.out.chg.size
    have hg8:GathI w5 b g.d (P+1) (m2,f2,rs) v w8:=by
     refine ⟨hr8,hf8,hz8,HG6.out.chg.trans hc8 (fun _ _ x=>x),hc8.row HG6.out.own (fun q hq hx=>?_)⟩
     have h1:=(HG6.out.own.lt q hq).1
     have h2:=HSZ.out
     have h3:=HC5.out.size
     rcases hx with hx|hx<;>omega
    have HG8:=Lib.hid hg8
    have hlw8:w5.heap.size≤w8.heap.size:=hg8.chg.size
    clear hr8 hf8 hz8 hc8 hg8 d0 HGI hlw
    cases t with
    | true=>
     go_wp2_with fail
     refine ⟨⟨k+1,by omega,by go_num,v,rfl,?_⟩,by simp [intOf];omega⟩
     rw [HX.out]
     first|exact HG8.out|exact HG8.out.new (Chg.refl _ _).drew|exact HG8.out.new ((Chg.refl _ _).drewN _)
    | false=>
     go_wp2_with (at_builtin;refine wpList_append_own _ rfl (.tmp 47) (.tmp 49) 34 rfl w5.heap.size 9 i0 (.string ⟨#[]⟩) 1 16 Tryz.underlying34 hi hz0 hz1 hz2 rfl (by decide) v rs.length (rs.map Value.string) rfl (HG8.out.own.alloc _) ⟨w8.heap.size,0,none⟩ 1 1 [.string nm] rfl rfl ?c1 ?c2 ?c3 ?c4 ?c5 ?c6)
     case c1=>exact cell_one_new _ _ _
     case c2=>intro u hu;simp at hu;rw [hu];rfl
     case c3=>unfold maxLen;omega
     case c4=>omega
     case c5=>simp;omega
     case c6=>
      intro v' w9 hown9 hgrow9 _
      have hc9:Chg (fun q=>some q=v.ownBlock) (w8.alloc (.cells #[.string nm] 9)) w9:=Chg.of_grown hgrow9 (fun q hq _=>hq.symm)
      have ha9:Chg (fun _=>False) w8 (w8.alloc (.cells #[.string nm] 9)):=Chg.alloc _ (Chg.refl _ _) _
      have hi9:=HG8.out.new ha9
      have hlw:=hi9.own.lt
      have h2:=HSZ.out
      have h3:=HC5.out.size
      have nb1:¬ some b=v.ownBlock:=fun hx=>by have:=(hlw b hx.symm).1;omega
      have nb2:¬ some (P+1)=v.ownBlock:=fun hx=>by have:=(hlw (P+1) hx.symm).1;omega
      have hg9:GathI w5 b g.d (P+1) (m2,f2,rs ++ [nm]) v' w9:=by
       refine ⟨hi9.row.chg hc9 nb1,hc9.cell hi9.fst nb2,frozen_chg hi9.free hc9 hi9.fst nb2,hi9.chg.trans hc9 (fun q hq hx=>?_),?_⟩
       ·have:=(hlw q hx.symm).1
        omega
       ·simp only [List.length_append,List.map_append,List.map_cons,List.map_nil,List.length_cons,List.length_nil]
        exact hown9
      have HG9:=Lib.hid hg9
      clear hc9 ha9 hi9 hlw h2 h3 nb1 nb2 hg9 hown9 hgrow9
      go_wp2_with fail
      refine ⟨⟨k+1,by omega,by go_num,v',rfl,?_⟩,by simp [intOf];omega⟩
      rw [HX.out]
      first|exact HG9.out|exact HG9.out.new (Chg.refl _ _).drew|exact HG9.out.new ((Chg.refl _ _).drewN _)
  ·obtain rfl:k=n:=by omega
   rw [HN.out,List.take_length] at HGI
   go_wp2_with fail
   go_ret
   refine ⟨_,rfl,HGI.out.row,?_,?_⟩
   ·refine strs_up (strs_of_own HGI.out.own) ?_
    have h1:=HSZ.out
    have h2:=HC5.out.size
    have h3:=HP.out
    omega
   ·have h4:Chg (fun k=>k=b) w w5:=((Chg.of_below (S:=fun _=>False) HB1.out).trans HC5.out (fun _ _ x=>x)).wide (fun _ _ x=>x.elim)
    refine h4.trans HGI.out.chg (fun i hi hx=>?_)
    rcases hx with hx|hx
    ·exact hx
    ·have h3:=HP.out
     omega
end Go.Proofs.YtajmeimjaapagaaGreatDoor
namespace Go.Proofs.YtajmeimjaapagaaGreatDoor
open Go.RowKit Go.Deep
attribute [local go_sem] fr_opt
theorem find_some_mem {st:St} {nm:ByteArray} (h:∃ p∈st.fs,p.1=nm):(st.find nm).isSome=true:=by
 obtain ⟨p,hp,rfl⟩:=h
 unfold St.find
 rw [Option.isSome_map,List.find?_isSome]
 exact ⟨p,hp,by simp⟩
theorem Calm.readyE {n:Nat} {st:St} (h:Calm n st) {ts:List ByteArray} (ht:∀ t∈ts,(st.find t).isSome=true):Go.Proofs.YtajmeimjaapagaaGreatDoor.readyE st ts=0:=by
 unfold Go.Proofs.YtajmeimjaapagaaGreatDoor.readyE
 rw [if_neg (by rw [h.down];simp),if_pos]
 rw [List.all_eq_true]
 exact ht
theorem Calm.deleteE {n:Nat} {st:St} (h:Calm n st) {ts:List ByteArray} (ht:∀ t∈ts,(st.find t).isSome=true):Go.Proofs.YtajmeimjaapagaaGreatDoor.deleteE st ts=0:=by
 unfold Go.Proofs.YtajmeimjaapagaaGreatDoor.deleteE
 rw [if_pos (h.readyE ht),h.burnE]
theorem Calm.deleteS {n:Nat} {st:St} (h:Calm n st) {ts:List ByteArray} (ht:∀ t∈ts,(st.find t).isSome=true):Go.Proofs.YtajmeimjaapagaaGreatDoor.deleteS st ts=deleteAll st ts:=by
 unfold Go.Proofs.YtajmeimjaapagaaGreatDoor.deleteS
 rw [if_pos (h.readyE ht),if_pos h.burnE,h.burnS]
theorem deleteAll_keeps (st:St) (ts:List ByteArray):(deleteAll st ts).lit=st.lit∧(deleteAll st ts).down=st.down∧(deleteAll st ts).cap=st.cap:=by
 unfold deleteAll
 induction ts generalizing st with
 | nil=>exact ⟨rfl,rfl,rfl⟩
 | cons t ts ih=>exact ih (removeS st t)
theorem Calm.delete {n:Nat} {st:St} (h:Calm n st) (ts:List ByteArray):Calm n (deleteAll st ts):=
 ⟨h.good.deleteAll ts,(deleteAll_keeps st ts).1.trans h.lit,(deleteAll_keeps st ts).2.1.trans h.down⟩
theorem Good.lenN {n:Nat} {st:St} (h:Good n st) (nm:ByteArray):st.len nm≤16777216:=by
 have:=h.sizeOk.len nm
 have:=h.size
 have:=h.cap
 omega
def openX (st:St) (head:ByteArray) (size:Int):RowM×Bool×List ByteArray:=gathS st (newRow head size) (namesS head st)
def openM (st:St) (head:ByteArray) (size:Int):RowM:={ (openX st head size).1 with synced:=(openX st head size).1.begin_,touched:=(openX st head size).1.begin_ }
def openS (st:St) (head:ByteArray) (size:Int):St:=deleteAll st (openX st head size).2.2
def OpenG (w0:World) (g:Gh) (st:St) (m:RowM) (w:World) (e:Ending) (w':World):Prop:=
 ∃ b,e = .returned (.tuple #[.pointer (some ⟨b,0,none⟩),.int .i64 0])∧w.heap.size≤b∧∃ g',RowG w0 w' b g' st m∧Gh.To w g g' w'
theorem openX_found (st:St) (head:ByteArray) (size:Int):∀ t∈(openX st head size).2.2,(st.find t).isSome=true:=fun t ht=>
 find_some_mem (namesS_mem ((gathS_same st (newRow head size) (namesS head st)).2.2.2 t ht))
set_option maxHeartbeats 1000000 in
set_option maxRecDepth 100000 in
theorem open_calm (w0:World) (g:Gh) (st:St) (head:ByteArray) (size:Int) (n:Nat) (w:World) (hd:DiskAt w g st) (hc:Chg (fun _=>False) w0 w) (hlow:∀ k∈g.fp,w0.heap.size≤k) (ht:Tab10 w0)
 (hk:Calm n st) (hn:n≤1048576) (hnm:∀ p∈st.fs,p.1.size≤1048576) (hs1:16≤size) (hs2:size≤4096) :
 Calls Tryz.prog 62 #[.pointer (some ⟨g.d,0,none⟩),.string head,.int .i64 size] w (OpenG w0 g (openS st head size) (openM st head size) w):=by
 have hD:=down_any g st w hd
 rw [hk.down] at hD
 obtain ⟨W1,hW1⟩:∃ W,W=w.alloc (.cells ((newRow head size).cells g.d) 157):=⟨_,rfl⟩
 have hc1:Chg (fun _=>False) w W1:=hW1▸Chg.alloc _ (Chg.refl _ _) _
 have hd1:=hd.new hc1
 have hr1:RowAt W1 w.heap.size g.d (newRow head size):=by unfold RowAt;rw [hW1];exact heap_alloc_new w _
 have hout:w.heap.size∉g.fp:=fun hx=>(by have:=hd.lt _ hx;omega)
 have hg1:RowG w0 W1 w.heap.size g st (newRow head size):=⟨hd1,hr1,hout,hc.trans hc1 (fun _ _ x=>x),hlow,hc.size,ht⟩
 have hG:=gather_any w.heap.size g st (newRow head size) W1 hr1 hd1 hout (by have:=hk.good.len;omega) hnm (fun nm=>by have:=hk.good.lenN nm;omega) hs1 hs2
 rw [show (newRow head size).head=head from rfl,show gathS st (newRow head size) (namesS head st)=openX st head size from rfl] at hG
 have hfound:=openX_found st head size
 have hlen:(openX st head size).2.2.length≤1048576:=by
  have h1:=(gathS_same st (newRow head size) (namesS head st)).2.2.1
  have h2:=namesS_length head st
  have h3:=hk.good.len
  exact Nat.le_trans h1 (by omega)
 have hDL:∀ W v,DiskAt W g st→Strs W W1.heap.size v (openX st head size).2.2→Calls Tryz.prog 101 #[.pointer (some ⟨g.d,0,none⟩),v] W (OpTo g 0 (openS st head size) W):=fun W v hdW hsv=>by
  have:=delete_any g st v _ W hdW (strs_up hsv (Nat.zero_le _)) (fun q o len cap hv h0 hx=>by
   obtain ⟨a,c,e,h⟩:=hsv
   rw [e] at hv
   cases hv
   rcases h with h|⟨q',o',hq,hb,_⟩
   ·rw [h] at h0;exact absurd h0 (by simp)
   ·cases hq
    have h1:=hd.lt _ hx
    have h2:=hc1.size
    omega) (fun t ht=>by
   obtain ⟨p,hp,rfl⟩:=namesS_mem ((gathS_same st (newRow head size) (namesS head st)).2.2.2 t ht)
   have:=hnm p hp
   unfold maxLen
   omega) (by omega) hk.good.fuse hk.good.sizeOk (by have:=hk.good.size;have:=hk.good.cap;omega)
  rwa [hk.deleteE hfound,hk.deleteS hfound] at this
 have hsame:=gathS_same st (newRow head size) (namesS head st)
 rw [show gathS st (newRow head size) (namesS head st)=openX st head size from rfl] at hsame
 have hMM:openM st head size = { (openX st head size).1 with synced:=(openX st head size).1.begin_,touched:=(openX st head size).1.begin_ }:=rfl
 have hnil:(openX st head size).2.2=[]→openS st head size=st:=fun h=>by unfold openS;rw [h];rfl
 obtain ⟨⟨m1,f1,rs⟩,hx⟩:∃ x,x=openX st head size:=⟨_,rfl⟩
 rw [←hx] at hG hDL hMM hnil hlen
 simp only at hG hDL hMM hnil hlen
 obtain ⟨n',hn'⟩:∃ n',n'=rs.length:=⟨_,rfl⟩
 have HN:=Lib.hid hn'
 have HD:=Lib.hid hD
 have HG:=Lib.hid hG
 have HG1:=Lib.hid hg1
 have HW1:=Lib.hid hW1
 have HC1:=Lib.hid hc1
 have HDL:=Lib.hid hDL
 have HMM:=Lib.hid hMM
 have HNIL:=Lib.hid hnil
 have HOUT:=Lib.hid hout
 rw [←hn'] at hlen
 clear hD hG hg1 hr1 hd1 hc1 hd hDL hMM hfound hsame hx hk hnm hnil hn' hn hout
 go_enter Tryz.func62,Tryz.ntmps62
 go_wp2_with (go_at_call 99;refine HD.out.mono ?_;rintro e wx ⟨rfl,rfl⟩)
 unfold newRow RowM.cells at hW1
 simp only at hW1
 rw [←hW1]
 go_wp2_with (go_at_call 100;refine HG.out.mono ?_)
 rintro e w2 ⟨rv,rfl,hr2,hs2',hc2⟩
 simp only at hr2 hs2'
 obtain ⟨ra,rc,hrv⟩:=hs2'.form
 rw [←HN.out] at hrv
 subst hrv
 have hg2:RowG w0 w2 w.heap.size g st m1:=by
  have ht2:RowTo W1 w.heap.size g g w2:=⟨hc2.wide (fun _ _ x=>.inl x),fun _ x=>.inl x,rfl⟩
  exact HG1.out.step (HG1.out.disk.chg hc2 (fun q hq hx=>HOUT.out (hx▸hq))) hr2 ht2
 have HG2:=Lib.hid hg2
 have HS2:=Lib.hid hs2'
 have HC2:=Lib.hid hc2
 have k0:=hg2.row.cell.1
 clear hr2 hs2' hc2 hg2 hW1
 have hfin:∀ W g' st',RowG w0 W w.heap.size g' st' m1→Gh.To w2 g g' W→Gh.To w g g' W:=fun W g' st' _ hto=>by
  have hs1:=HC1.out.size
  have hs2:=HC2.out.size
  refine ⟨⟨hto.chg.os.trans (HC2.out.os.trans HC1.out.os),hto.chg.tape.trans (HC2.out.tape.trans HC1.out.tape),hto.chg.output.trans (HC2.out.output.trans HC1.out.output),by have:=hto.chg.size;omega,fun q hq hx=>?_⟩,fun q hq=>?_,hto.d⟩
  ·rw [hto.chg.block q (by omega) hx,HC2.out.block q (by omega) (by omega),HC1.out.block q hq (fun x=>x)]
  ·rcases hto.fp q hq with h|h
   ·exact .inl h
   ·exact .inr (by omega)
 have HFIN:=Lib.hid hfin
 clear hfin
 by_cases hr0:n'=0
 case' pos=>
  subst hr0
  go_wp2_with fail
  generalize hw3:w2=w3
  obtain ⟨g3,hg3⟩:∃ g3,g3=g:=⟨_,rfl⟩
  have h3:RowG w0 w3 w.heap.size g3 (openS st head size) m1∧Gh.To w g g3 w3:=by
   have e:=HNIL.out (List.length_eq_zero_iff.1 HN.out.symm)
   rw [hg3,e,←hw3]
   exact ⟨HG2.out,HFIN.out w2 g st HG2.out (Gh.To.refl _ _)⟩
  clear hw3 hg3
 case' neg=>
  have hpos:0<n':=by omega
  go_wp2_with (go_at_call 101;refine (HDL.out _ _ HG2.out.disk HS2.out).mono ?_;rintro e w3 ⟨rfl,g3,hd3,ht3⟩)
  have h3:RowG w0 w3 w.heap.size g3 (openS st head size) m1∧Gh.To w g g3 w3:=by
   have h4:=HG2.out.op hd3 ht3
   exact ⟨h4.1,HFIN.out w3 g3 _ h4.1 ht3⟩
  clear hd3 ht3
 all_goals
  obtain ⟨c0,c1,c2,c3,c4,c5,c6,c7,hz⟩:=h3.1.row.cell
  have z6:=hz 6
  have z7:=hz 7
  have H3:=Lib.hid h3
  clear h3 hz c0 c1 c2 c4 c5 k0
  go_region
  go_wp2_with fail
  go_ret2
  have h4:=H3.out.1.set 6 (.int .i64 m1.begin_) { m1 with synced:=m1.begin_ } rfl
  have h5:=h4.1.set 7 (.int .i64 m1.begin_) { m1 with synced:=m1.begin_,touched:=m1.begin_ } rfl
  rw [←HMM.out] at h5
  have h6:Gh.To w g g3 ((w3.setCell ⟨w.heap.size,6,none⟩ (.int .i64 m1.begin_)).setCell ⟨w.heap.size,7,none⟩ (.int .i64 m1.begin_)):=
   ⟨Chg.setCell (Chg.setCell H3.out.2.chg (fun hx=>absurd hx (Nat.lt_irrefl _)) _) (fun hx=>absurd hx (Nat.lt_irrefl _)) _,H3.out.2.fp,H3.out.2.d⟩
  refine ⟨w.heap.size,rfl,Nat.le_refl _,g3,?_,?_⟩
  ·first|exact h5.1|exact h5.1.drew|exact h5.1.drewN _
  ·first|exact h6|exact ⟨h6.chg.drew,h6.fp,h6.d⟩
end Go.Proofs.YtajmeimjaapagaaGreatDoor
namespace Go.Proofs.YtajmeimjaapagaaGreatDoor
open Go.RowKit Go.Deep
attribute [local go_sem] fr_opt
def plF (x z:Nat):Nat→Nat→List Nat
 | 0,_=>[]
 | f+1,u=>if u<x then u :: plF x z f (u+z) else []
theorem plF_done (x z:Nat) {u:Nat} (h:¬ u<x):∀ f,plF x z f u=[]
 | 0=>rfl
 | f+1=>by unfold plF;rw [if_neg h]
theorem plF_more (x z:Nat) (hz:0<z):∀ (f:Nat) (u:Nat),x - u≤f→plF x z (f+1) u=plF x z f u
 | 0,u,h=>by rw [plF_done x z (by omega),plF_done x z (by omega)]
 | f+1,u,h=>by
  by_cases hu:u<x
  ·unfold plF
   rw [if_pos hu,if_pos hu,plF_more x z hz f (u+z) (by omega)]
  ·rw [plF_done x z hu,plF_done x z hu]
def plS (x z u:Nat):List Nat:=plF x z x u
theorem plS_step (x z u:Nat) (hz:0<z) (hu:u<x):plS x z u=u :: plS x z (u+z):=by
 unfold plS
 rw [←plF_more x z hz x u (by omega)]
 show (if u<x then _ else _)=_
 rw [if_pos hu]
theorem plS_done (x z u:Nat) (hu:¬ u<x):plS x z u=[]:=plF_done x z hu x
theorem plS_mem {x z:Nat} (hz:0<z) (f u:Nat) (hf:x - u≤f):∀ p∈plS x z u,u≤p∧p<x:=by
 induction f generalizing u with
 | zero=>rw [plS_done x z u (by omega)];exact fun p hp=>by cases hp
 | succ f ih=>
  intro p hp
  by_cases hu:u<x
  ·rw [plS_step x z u hz hu] at hp
   rcases List.mem_cons.1 hp with rfl|hp
   ·exact ⟨Nat.le_refl _,hu⟩
   ·have:=ih (u+z) (by omega) p hp
    omega
  ·rw [plS_done x z u hu] at hp
   cases hp
theorem plS_length {x z:Nat} (hz:0<z) (f u:Nat) (hf:x - u≤f):(plS x z u).length≤x - u:=by
 induction f generalizing u with
 | zero=>rw [plS_done x z u (by omega)];exact Nat.zero_le _
 | succ f ih=>
  by_cases hu:u<x
  ·rw [plS_step x z u hz hu,List.length_cons]
   have:=ih (u+z) (by omega)
   omega
  ·rw [plS_done x z u hu]
   exact Nat.zero_le _
set_option maxHeartbeats 2000000 in
set_option maxRecDepth 100000 in
theorem names_any (w0:World) (b:Nat) (g:Gh) (st:St) (m:RowM) (x z u:Nat) (w:World) (h:RowG w0 w b g st m) (hx:m.next=(x:Int)) (hz:m.size=(z:Int)) (hx1:x≤100000000) (hz1:16≤z) (hz2:z≤4096) (hh:m.head.size≤1048576) (hu:u≤1099511627776) :
 Calls Tryz.prog 156 #[.pointer (some ⟨b,0,none⟩),.int .i64 u] w fun e w'=>∃ v,e = .returned v∧Strs w' w.heap.size v ((plS x z u).map (nameB m.head))∧Below w.heap.size w w':=by
 have hNm:∀ W (p:Nat),Chg (fun _=>False) w W→p<x→Calls Tryz.prog 90 #[.pointer (some ⟨b,0,none⟩),.int .i64 p] W fun e w'=>e = .returned (.string (nameB m.head p))∧Below W.heap.size W w':=fun W p hc hp=>
  rname_any b g.d m W (h.new hc).row (h.new hc).tab p (by omega) (by omega)
 have HNM:=Lib.hid hNm
 have H:=Lib.hid h
 have hln:=plS_length (x:=x) (z:=z) (by omega) x u (by omega)
 obtain ⟨tot,htot⟩:∃ tot,tot=(plS x z u).map (nameB m.head):=⟨_,rfl⟩
 have hln2:tot.length≤100000000:=by rw [htot,List.length_map];omega
 rw [←htot]
 have HT:=Lib.hid htot
 have HX:=Lib.hid (And.intro hx hz)
 obtain ⟨i0,hi,hz0,hz1',hz2'⟩:=info_parts info_str
 clear hNm h htot hln hx hz
 go_enter Tryz.func156,Tryz.ntmps156
 go_wp2_with fail
 go_loopw [5,6] (fun r i wr=>∃ (p:Nat) (acc:List ByteArray) (v:Value),v=r∧i = .int .i64 p∧p≤1099511627776∧tot=acc ++ (plS x z p).map (nameB m.head)∧Below w.heap.size w wr∧wr.ownsRow w.heap.size 9 1 v acc.length (acc.map Value.string)) (fun _ i _=>x - (intOf i).toNat)
 case atStart=>exact ⟨u,[],_,rfl,rfl,hu,HT.out,Below.refl _ _,World.ownsRow_nil _ _ _ _⟩
 case round=>
  obtain ⟨p,acc,v,rfl,rfl,hp,htot,hb,hown⟩:=hrel
  have hg:=H.out.new (Chg.of_below (S:=fun _=>False) hb)
  obtain ⟨c0,c1,c2,c3,c4,c5,c6,c7,hfz⟩:=hg.row.cell
  rw [HX.out.1] at c5
  rw [HX.out.2] at c2
  clear hfz c0 c1 c3 c4 c6 c7
  by_cases hlt:p<x
  ·have hpl:tot=(acc ++ [nameB m.head p]) ++ (plS x z (p+z)).map (nameB m.head):=by
    rw [htot,plS_step x z p (by omega) hlt,List.map_cons,List.append_assoc]
    rfl
   have hal:acc.length<tot.length:=by rw [hpl];simp
   have HPL:=Lib.hid hpl
   have HB:=Lib.hid hb
   have HOWN:=Lib.hid hown
   have hNM:=HNM.out wr p (Chg.of_below hb) hlt
   have hw1:IntKind.i64.wrap ((p:Int)+z)=p+z:=IntWalk.i64_in _ (by omega)
   have HNM1:=Lib.hid hNM
   clear hpl hb hown hNM htot hg
   have HG:=Lib.hid (H.out.new (Chg.of_below (S:=fun _=>False) HB.out))
   go_wp2_with (first
    | (go_at_call 90;refine HNM1.out.mono ?_;rintro e w6 ⟨rfl,hb6⟩;have ho6:=(Chg.of_below (S:=fun _=>False) hb6).row HOWN.out (fun _ _ x=>x))
    | (at_builtin;refine wpList_append_own _ rfl (.tmp 20) (.tmp 24) 34 rfl w.heap.size 9 i0 (.string ⟨#[]⟩) 1 16 Tryz.underlying34 hi hz0 hz1' hz2' rfl (by decide) v acc.length (acc.map Value.string) rfl (ho6.alloc _) ⟨w6.heap.size,0,none⟩ 1 1 [.string (nameB m.head p)] rfl rfl ?c1 ?c2 ?c3 ?c4 ?c5 ?c6))
   case c1=>exact cell_one_new _ _ _
   case c2=>intro u hu;simp at hu;rw [hu];rfl
   case c3=>unfold maxLen;omega
   case c4=>omega
   case c5=>simp;have:=HB.out.size;have:=hb6.size;omega
   case c6=>
    intro v' w9 hown9 hgrow9 _
    have hb7:Below w.heap.size w (w6.alloc (.cells #[.string (nameB m.head p)] 9)):=by
     have h1:=HB.out.trans (hb6.mono HB.out.size)
     exact h1.alloc h1.size _
    have hb9:Below w.heap.size w w9:=by
     refine hb7.grown hgrow9 hb7.size (fun q hq=>?_)
     have:=(ho6.lt q hq).1
     omega
    have hg9:=H.out.new (Chg.of_below (S:=fun _=>False) hb9)
    have d2:=hg9.row.cell.2.2.1
    rw [HX.out.2] at d2
    have HB9:=Lib.hid hb9
    have HO9:=Lib.hid hown9
    clear hb6 ho6 hb7 hb9 hg9 hown9 hgrow9 c2 c5
    go_wp2_with fail
    refine ⟨⟨p+z,acc ++ [nameB m.head p],v',rfl,by go_num,by omega,HPL.out,HB9.out,?_⟩,by simp [intOf];omega⟩
    simp only [List.length_append,List.map_append,List.map_cons,List.map_nil,List.length_cons,List.length_nil]
    exact HO9.out
  ·have htl:tot=acc:=by rw [htot,plS_done x z p hlt];simp
   have HTL:=Lib.hid htl
   have HB:=Lib.hid hb
   have HOWN:=Lib.hid hown
   clear htl hb hown htot hg
   go_wp2_with fail
   go_ret
   exact ⟨_,rfl,by rw [HTL.out];exact strs_of_own HOWN.out,HB.out⟩
theorem Calm.syncE {n:Nat} {st:St} (h:Calm n st) {ts:List ByteArray} (ht:∀ t∈ts,(st.find t).isSome=true):Go.Proofs.YtajmeimjaapagaaGreatDoor.syncE st ts=0:=h.deleteE ht
theorem Calm.syncS {n:Nat} {st:St} (h:Calm n st) {ts:List ByteArray} (ht:∀ t∈ts,(st.find t).isSome=true):Go.Proofs.YtajmeimjaapagaaGreatDoor.syncS st ts=syncAll st ts:=by
 unfold Go.Proofs.YtajmeimjaapagaaGreatDoor.syncS
 rw [if_pos (h.readyE ht),if_pos h.burnE,h.burnS]
theorem sync1_keeps (st:St) (t:ByteArray):(sync1 st t).lit=st.lit∧(sync1 st t).down=st.down∧(sync1 st t).cap=st.cap∧(sync1 st t).size=st.size:=by
 unfold sync1
 split<;>exact ⟨rfl,rfl,rfl,rfl⟩
theorem syncAll_keeps (st:St) (ts:List ByteArray):(syncAll st ts).lit=st.lit∧(syncAll st ts).down=st.down∧(syncAll st ts).cap=st.cap∧(syncAll st ts).size=st.size:=by
 unfold syncAll
 induction ts generalizing st with
 | nil=>exact ⟨rfl,rfl,rfl,rfl⟩
 | cons t ts ih=>
  have h1:=ih (sync1 st t)
  have h2:=sync1_keeps st t
  exact ⟨h1.1.trans h2.1,h1.2.1.trans h2.2.1,h1.2.2.1.trans h2.2.2.1,h1.2.2.2.trans h2.2.2.2⟩
theorem Calm.sync {n:Nat} {st:St} (h:Calm n st) (ts:List ByteArray):Calm n (syncAll st ts):=
 ⟨h.good.syncAll ts,(syncAll_keeps st ts).1.trans h.lit,(syncAll_keeps st ts).2.1.trans h.down⟩
theorem out_new {w w':World} {g:Gh} {st:St} {B:Nat} {v:Value} {ts:List ByteArray} (hd:DiskAt w g st) (hs:Strs w' B v ts) (hB:w.heap.size≤B):Out g v:=fun q o len cap hv h0 hx=>by
 obtain ⟨a,c,e,h⟩:=hs
 rw [e] at hv
 cases hv
 rcases h with h|⟨q',o',hq,hb,_⟩
 ·rw [h] at h0;exact absurd h0 (by simp)
 ·cases hq
  have h1:=hd.lt _ hx
  omega
def syncedM (m:RowM):RowM:={ m with synced:=m.end_,touched:=m.next }
def rowNames (m:RowM) (u:Nat):List ByteArray:=(plS m.next.toNat m.size.toNat u).map (nameB m.head)
set_option maxHeartbeats 2000000 in
set_option maxRecDepth 100000 in
theorem rsync_any (w0:World) (b:Nat) (g:Gh) (st:St) (m:RowM) (n:Nat) (w:World) (h:RowG w0 w b g st m) (hk:Calm n st) (hn:n≤1048576) (hx0:0≤m.next) (hx1:m.next≤100000000) (hz1:16≤m.size) (hz2:m.size≤4096) (hh:m.head.size≤1048576)
 (ht0:0≤m.touched) (ht1:m.touched≤1099511627776) (hfound:∀ t∈rowNames m m.touched.toNat,(st.find t).isSome=true) :
 Calls Tryz.prog 108 #[.pointer (some ⟨b,0,none⟩)] w fun e w'=>e = .returned (.int .i64 0)∧∃ g',RowG w0 w' b g' (syncAll st (rowNames m m.touched.toNat)) (syncedM m)∧RowTo w b g g' w':=by
 have hNm:=names_any w0 b g st m m.next.toNat m.size.toNat m.touched.toNat w h (by omega) (by omega) (by omega) (by omega) (by omega) hh (by omega)
 rw [show ((m.touched.toNat:Nat):Int)=m.touched by omega] at hNm
 have hsz:∀ t∈rowNames m m.touched.toNat,t.size≤maxLen:=fun t ht=>by
  obtain ⟨p,_,rfl⟩:=List.mem_map.1 ht
  rw [nameB_size]
  unfold maxLen
  omega
 have hlen:(rowNames m m.touched.toNat).length≤100000000:=by
  unfold rowNames
  rw [List.length_map]
  have:=plS_length (x:=m.next.toNat) (z:=m.size.toNat) (by omega) m.next.toNat m.touched.toNat (by omega)
  omega
 rw [show (plS m.next.toNat m.size.toNat m.touched.toNat).map (nameB m.head)=rowNames m m.touched.toNat from rfl] at hNm
 obtain ⟨rs,hrs⟩:∃ rs,rs=rowNames m m.touched.toNat:=⟨_,rfl⟩
 rw [←hrs] at hNm hsz hlen hfound ⊢
 have hSY:∀ W v,RowG w0 W b g st m→Strs W w.heap.size v rs→Calls Tryz.prog 159 #[.pointer (some ⟨g.d,0,none⟩),v] W (OpTo g 0 (syncAll st rs) W):=fun W v hW hsv=>by
  have:=syncd_any g st v rs W hW.disk (strs_up hsv (Nat.zero_le _)) (out_new h.disk hsv (Nat.le_refl _)) hsz (by omega) hk.good.fuse (hk.good.allIn (by omega))
  rwa [hk.syncE hfound,hk.syncS hfound] at this
 obtain ⟨c0,c1,c2,c3,c4,c5,c6,c7,hfz⟩:=h.row.cell
 obtain ⟨n',hn'⟩:∃ n',n'=rs.length:=⟨_,rfl⟩
 rw [←hn'] at hlen
 have HNM:=Lib.hid hNm
 have HSY:=Lib.hid hSY
 have HN:=Lib.hid hn'
 have H:=Lib.hid h
 clear hNm hSY hn' hrs hsz hfound h hfz c0 c1 c2 c3 c4 c5 c6 hk
 go_enter Tryz.func108,Tryz.ntmps108
 go_wp2_with (go_at_call 156;refine HNM.out.mono ?_)
 rintro e w2 ⟨rv,rfl,hsv,hb2⟩
 obtain ⟨ra,rc,hrv⟩:=hsv.form
 rw [←HN.out] at hrv
 subst hrv
 have hg2:=H.out.new (Chg.of_below (S:=fun _=>False) hb2)
 have k0:=hg2.row.cell.1
 have HG2:=Lib.hid hg2
 have HSV:=Lib.hid hsv
 have HB2:=Lib.hid hb2
 clear hg2 hsv hb2 c7
 by_cases hr0:n'=0
 case' pos=>
  subst hr0
  go_wp2_with fail
  generalize hw3:w2=w3
  obtain ⟨g3,hg3⟩:∃ g3,g3=g:=⟨_,rfl⟩
  have h3:RowG w0 w3 b g3 (syncAll st rs) m∧RowTo w b g g3 w3:=by
   have e:=List.length_eq_zero_iff.1 HN.out.symm
   rw [hg3,e,←hw3]
   exact ⟨HG2.out,RowTo.new b g (Chg.of_below HB2.out)⟩
  clear hw3 hg3
 case' neg=>
  have hpos:0<n':=by omega
  go_wp2_with (go_at_call 159;refine (HSY.out _ _ HG2.out HSV.out).mono ?_;rintro e w3 ⟨rfl,g3,hd3,ht3⟩)
  have h3:RowG w0 w3 b g3 (syncAll st rs) m∧RowTo w b g g3 w3:=by
   have h4:=HG2.out.op hd3 ht3
   exact ⟨h4.1,(RowTo.new b g (Chg.of_below HB2.out)).trans h4.2⟩
  clear hd3 ht3
 all_goals
  obtain ⟨c0,c1,c2,c3,c4,c5,c6,c7,hz⟩:=h3.1.row.cell
  have z6:=hz 6
  have z7:=hz 7
  have H3:=Lib.hid h3
  clear h3 hz c0 c1 c2 c3 k0
  go_region
  go_wp2_with fail
  go_ret
  have h4:=H3.out.1.set 6 (.int .i64 m.end_) { m with synced:=m.end_ } rfl
  have h5:=h4.1.set 7 (.int .i64 m.next) (syncedM m) rfl
  refine ⟨rfl,g3,?_,?_⟩
  ·first|exact h5.1|exact h5.1.drew|exact h5.1.drewN _
  ·have h6:=H3.out.2.trans (h4.2.trans h5.2)
   first|exact h6|exact ⟨h6.chg.drew,h6.fp,h6.d⟩
end Go.Proofs.YtajmeimjaapagaaGreatDoor
namespace Go.Proofs.YtajmeimjaapagaaGreatDoor
open Go.RowKit Go.Deep
attribute [local go_sem] fr_opt
set_option maxRecDepth 100000 in
theorem rbegin_any (b d:Nat) (m:RowM) (w:World) (h:RowAt w b d m):Calls Tryz.prog 87 #[.pointer (some ⟨b,0,none⟩)] w fun e w'=>e = .returned (.int .i64 m.begin_)∧w=w':=by
 obtain ⟨c0,c1,c2,c3,c4,c5,c6,c7,hz⟩:=h.cell
 clear h hz
 go_enter Tryz.func87,Tryz.ntmps87
 go_wp2_with fail
 go_ret
 exact ⟨rfl,rfl⟩
set_option maxRecDepth 100000 in
theorem rend_any (b d:Nat) (m:RowM) (w:World) (h:RowAt w b d m):Calls Tryz.prog 42 #[.pointer (some ⟨b,0,none⟩)] w fun e w'=>e = .returned (.int .i64 m.end_)∧w=w':=by
 obtain ⟨c0,c1,c2,c3,c4,c5,c6,c7,hz⟩:=h.cell
 clear h hz
 go_enter Tryz.func42,Tryz.ntmps42
 go_wp2_with fail
 go_ret
 exact ⟨rfl,rfl⟩
set_option maxRecDepth 100000 in
theorem rplace_any (b d:Nat) (m:RowM) (a:Int) (w:World) (h:RowAt w b d m) (h0:0≤a) (h1:a≤1099511627776) (hs1:16≤m.size) (hs2:m.size≤4096) :
 Calls Tryz.prog 89 #[.pointer (some ⟨b,0,none⟩),.int .i64 a] w fun e w'=>e = .returned (.int .i64 (a - a % m.size))∧w=w':=by
 obtain ⟨c0,c1,c2,c3,c4,c5,c6,c7,hz⟩:=h.cell
 obtain ⟨head,size,begin_,end_,next,synced,touched⟩:=m
 simp only at *
 have hne:¬ size=0:=by omega
 have hneb:(size == 0)=false:=by simpa using hne
 have hm0:0≤a % size:=Int.emod_nonneg _ hne
 have hm1:a % size<size:=Int.emod_lt_of_pos _ (by omega)
 have hw:IntKind.i64.wrap (a - a % size)=a - a % size:=IntWalk.i64_in _ (by omega)
 have ht:Int.tmod a size=a % size:=Int.tmod_eq_emod_of_nonneg h0
 clear h hz
 go_enter Tryz.func89,Tryz.ntmps89
 go_wp2_with fail
 go_ret
 exact ⟨rfl,rfl⟩
def leftR (m:RowM) (a:Int):Int:=if a<m.begin_∨m.end_≤a then 0 else min (a - a % m.size+m.size) m.end_ - a
set_option maxRecDepth 100000 in
theorem rleft_any (b d:Nat) (m:RowM) (a:Int) (w:World) (h:RowAt w b d m) (hb0:0≤m.begin_) (he:m.end_≤1099511627776) (hs1:16≤m.size) (hs2:m.size≤4096) :
 Calls Tryz.prog 88 #[.pointer (some ⟨b,0,none⟩),.int .i64 a] w fun e w'=>e = .returned (.int .i64 (leftR m a))∧∃ q,w'=w.drewN q:=by
 obtain ⟨c0,c1,c2,c3,c4,c5,c6,c7,hz⟩:=h.cell
 by_cases h1:a<m.begin_
 ·unfold leftR
  rw [if_pos (.inl h1)]
  clear h hz
  go_enter Tryz.func88,Tryz.ntmps88
  go_wp2_with fail
  go_ret
  exact ⟨rfl,0,rfl⟩
 ·by_cases h2:m.end_≤a
  ·unfold leftR
   rw [if_pos (.inr h2)]
   clear h hz
   go_enter Tryz.func88,Tryz.ntmps88
   go_wp2_with fail
   go_ret
   exact ⟨rfl,0,rfl⟩
  ·have hP:∀ q,Calls Tryz.prog 89 #[.pointer (some ⟨b,0,none⟩),.int .i64 a] (w.drewN q) fun e w'=>e = .returned (.int .i64 (a - a % m.size))∧w.drewN q=w':=fun q=>
    rplace_any b d m a (w.drewN q) h (by omega) (by omega) hs1 hs2
   have hL:leftR m a=min (a - a % m.size+m.size) m.end_ - a:=by unfold leftR;rw [if_neg (by omega)]
   rw [hL]
   obtain ⟨head,size,begin_,end_,next,synced,touched⟩:=m
   simp only at *
   have hne:¬ size=0:=by omega
   have hm0:0≤a % size:=Int.emod_nonneg _ hne
   have hm1:a % size<size:=Int.emod_lt_of_pos _ (by omega)
   obtain ⟨p,hp⟩:∃ p,p=a - a % size:=⟨_,rfl⟩
   have hp1:p≤a:=by omega
   have hp2:a<p+size:=by omega
   rw [←hp] at hP ⊢
   have hw1:IntKind.i64.wrap (p+size)=p+size:=IntWalk.i64_in _ (by omega)
   have hw2:IntKind.i64.wrap (min (p+size) end_ - a)=min (p+size) end_ - a:=IntWalk.i64_in _ (by omega)
   have HP:=Lib.hid hP
   clear h hz hL hp hm0 hm1 hP
   go_enter Tryz.func88,Tryz.ntmps88
   go_wp2_with fail
   go_quiet ((go_at_call 89;exact Calls.quiet_of ((HP.out _).mono fun _ _ hh=>⟨hh.1,0,hh.2.symm⟩)))
   go_wp2_with fail
   go_ret
   exact ⟨rfl,_,rfl⟩
end Go.Proofs.YtajmeimjaapagaaGreatDoor
namespace Go.Proofs.YtajmeimjaapagaaGreatDoor
open Go.RowKit Go.Deep
attribute [local go_sem] fr_opt
theorem part_text {w:World} {B cap:Nat} {cur:Array Value} {xs:List UInt8} {a k:Nat} (hg:w.heap[B]? = some (.cells cur 5 (0,0))) (h4:cur.toList.take xs.length=xs.map by8) (hk:a+k≤xs.length) :
 (convert 65 9 (.slice (some ⟨B,a,none⟩) k cap)).run Tryz.prog w = .ok (.string ⟨((xs.drop a).take k).toArray⟩) w:=by
 have hl:((xs.drop a).take k).length=k:=by rw [List.length_take,List.length_drop];omega
 have:=run_convert_bytes_back (P:=Tryz.prog) w 65 9 5 ⟨B,a,none⟩ cap ((xs.drop a).take k) Tryz.underlying65 Tryz.underlying5 Tryz.underlying9 (fun j hj=>by
  rw [hl] at hj
  rw [add_none]
  have e1:(cur.toList.take xs.length)[a+j]? = (xs.map by8)[a+j]?:=by rw [h4]
  rw [List.getElem?_take,if_pos (by omega),Array.getElem?_toList,List.getElem?_map,List.getElem?_eq_getElem (by omega)] at e1
  simp [World.cell?,hg,e1,by8])
 rw [hl] at this
 exact this
set_option maxRecDepth 100000 in
theorem dread_ok (g:Gh) (st:St) (nm:ByteArray) (f:FileM) (a k:Nat) (w:World) (h:DiskAt w g st) (hm:nm.size≤maxLen) (hq:st.down=false) (hf:st.find nm=some f) (hk:0<k) (ha:a+k≤f.bytes.length) (hl:f.bytes.length≤1099511627776) :
 Calls Tryz.prog 75 #[.pointer (some ⟨g.d,0,none⟩),.string nm,.int .i64 a,.int .i64 k] w fun e w'=>e = .returned (.tuple #[.string ⟨((f.bytes.drop a).take k).toArray⟩,.int .i64 0])∧Below w.heap.size w w':=by
 have hf':=h.find nm
 rw [hf] at hf'
 obtain ⟨e0,hg,rfl⟩:∃ e0,getE g.es nm=some e0∧e0.f=f:=by
  cases hx:getE g.es nm with
  | none=>rw [hx] at hf';cases hf'
  | some e0=>rw [hx] at hf';exact ⟨e0,rfl,Option.some.inj hf'⟩
 have HC:=Lib.hid (find_ok g st nm w h hm hq e0 hg)
 have HE:=Lib.hid (h.ents e0 (getE_mem hg).1)
 have hs:IntKind.i64.wrap ((e0.f.bytes.length:Int) - a)=(e0.f.bytes.length:Int) - a:=IntWalk.i64_in _ (by omega)
 have hp:IntKind.i64.wrap ((a:Int)+k)=(a:Int)+k:=IntWalk.i64_in _ (by omega)
 clear h hq hg hf hf'
 go_enter Tryz.func75,Tryz.ntmps75
 go_wp2_with (go_at_call 120;refine HC.out.mono ?_)
 rintro e w' ⟨rfl,hb⟩
 have hE:EntAt w' e0:=HE.out.chg (Chg.of_below (S:=fun _=>False) hb) (fun _ _ x=>x)
 have k1:=hE.cells.2.1
 rcases hE.bytes.form with ⟨_,h0⟩|⟨B,cap,cur,hv,hgB,hcap,hmax,hcs,htk⟩
 ·rw [h0] at ha;simp at ha;omega
 ·have hct:∀ c,_:=fun c=>part_text (cap:=c) hgB htk ha
  rw [hv] at k1
  unfold pk
  clear hE hv hgB htk hcs
  go_wp2_with fail
  go_ret2
  exact ⟨rfl,hb⟩
set_option maxHeartbeats 1000000 in
set_option maxRecDepth 100000 in
theorem rread_ok (w0:World) (b:Nat) (g:Gh) (st:St) (m:RowM) (a k u:Nat) (f:FileM) (w:World) (h:RowG w0 w b g st m) (hdn:st.down=false) (hb0:0≤m.begin_) (he:m.end_≤100000000) (hs1:16≤m.size) (hs2:m.size≤4096) (hh:m.head.size≤1048576)
 (hk:0<k) (h1:(k:Int)≤leftR m a) (hu:(u:Int)=(a:Int) - (a:Int) % m.size) (hf:st.find (nameB m.head u)=some f) (hfl:a - u+k≤f.bytes.length) (hfm:f.bytes.length≤1099511627776) :
 Calls Tryz.prog 51 #[.pointer (some ⟨b,0,none⟩),.int .i64 a,.int .i64 k] w fun e w'=>e = .returned (.tuple #[.string ⟨((f.bytes.drop (a - u)).take k).toArray⟩,.int .i64 0])∧Below w.heap.size w w':=by
 have hrange:m.begin_≤a∧(a:Int)<m.end_:=by
  by_cases hx:(a:Int)<m.begin_∨m.end_≤(a:Int)
  ·unfold leftR at h1
   rw [if_pos hx] at h1
   omega
  ·omega
 have hL:=rleft_any b g.d m a w h.row hb0 (by omega) hs1 hs2
 obtain ⟨l,hl⟩:∃ l,l=leftR m a:=⟨_,rfl⟩
 rw [←hl] at hL h1
 have hne:¬ m.size=0:=by omega
 have hm0:0≤(a:Int) % m.size:=Int.emod_nonneg _ hne
 have hm1:(a:Int) % m.size<m.size:=Int.emod_lt_of_pos _ (by omega)
 have hP:∀ W,RowG w0 W b g st m→Calls Tryz.prog 89 #[.pointer (some ⟨b,0,none⟩),.int .i64 a] W fun e w'=>e = .returned (.int .i64 u)∧W=w':=fun W hW=>by
  rw [hu]
  exact rplace_any b g.d m a W hW.row (by omega) (by omega) hs1 hs2
 have hN:∀ W,RowG w0 W b g st m→Calls Tryz.prog 90 #[.pointer (some ⟨b,0,none⟩),.int .i64 u] W fun e w'=>e = .returned (.string (nameB m.head u))∧Below W.heap.size W w':=fun W hW=>
  rname_any b g.d m W hW.row hW.tab u (by omega) (by omega)
 have hR:∀ W,RowG w0 W b g st m→Calls Tryz.prog 75 #[.pointer (some ⟨g.d,0,none⟩),.string (nameB m.head u),.int .i64 ((a:Int) - u),.int .i64 k] W fun e w'=>e = .returned (.tuple #[.string ⟨((f.bytes.drop (a - u)).take k).toArray⟩,.int .i64 0])∧Below W.heap.size W w':=fun W hW=>by
  have:=dread_ok g st (nameB m.head u) f (a - u) k W hW.disk (by rw [nameB_size];unfold maxLen;omega) hdn hf hk hfl hfm
  rwa [show ((a - u:Nat):Int)=(a:Int) - u by omega] at this
 obtain ⟨t,ht⟩:∃ t:ByteArray,t=⟨((f.bytes.drop (a - u)).take k).toArray⟩:=⟨_,rfl⟩
 rw [←ht] at hR ⊢
 have hw:IntKind.i64.wrap ((a:Int) - u)=(a:Int) - u:=IntWalk.i64_in _ (by omega)
 have hk0:¬ (k:Int)≤0:=by omega
 have hkb:((k:Int) == 0)=false:=by simp;omega
 have hlk:¬ l<(k:Int):=by omega
 obtain ⟨c0,c1,c2,c3,c4,c5,c6,c7,hz⟩:=h.row.cell
 have H:=Lib.hid h
 have HL:=Lib.hid hL
 have HP:=Lib.hid hP
 have HN:=Lib.hid hN
 have HR:=Lib.hid hR
 clear h hL hP hN hR hz c1 c2 c5 c6 c7 hf ht hu hl hm0 hm1 hfl hfm hdn
 go_enter Tryz.func51,Tryz.ntmps51
 go_wp2_with (go_at_call 88;refine HL.out.mono ?_;rintro e wx ⟨rfl,q,rfl⟩)
 go_wp2_with (go_at_call 89;refine (HP.out _ (H.out.drewN q)).mono ?_;rintro e wx ⟨rfl,rfl⟩)
 generalize hw1:w.drewN q=w1
 have hg1:RowG w0 w1 b g st m:=hw1▸H.out.drewN q
 have hb1:Below w.heap.size w w1:=hw1▸(⟨rfl,rfl,rfl,Nat.le_refl _,fun _ _=>rfl⟩:Below w.heap.size w (w.drewN q))
 have k0:=hg1.row.cell.1
 have HG1:=Lib.hid hg1
 have HB1:=Lib.hid hb1
 clear hg1 hb1 hw1 c0 c3 c4
 go_region_held3 (fun w'=>w'.cell? ⟨b,0,none⟩=some (.pointer (some ⟨g.d,0,none⟩)))
  (first|exact k0|go_keep)
  (first
   | (go_at_call 90
      ((with_reducible refine (HN.out _ ?_).mono ?_))
      ·repeat (first|exact HG1.out|with_reducible refine RowG.drew ?_|with_reducible refine RowG.drewN ?_ _)
      rintro e w8 ⟨rfl,hb8⟩
      have hg8:=HG1.out.drew.new (Chg.of_below (S:=fun _=>False) hb8)
      have k0:=hg8.row.cell.1
      have HG8:=Lib.hid hg8
      have HB8:=Lib.hid hb8
      clear hb8 hg8)
   | (go_at_call 75
      ((with_reducible refine (HR.out _ ?_).mono ?_))
      ·repeat (first|exact HG8.out|with_reducible refine RowG.drew ?_|with_reducible refine RowG.drewN ?_ _)
      rintro e w9 ⟨rfl,hb9⟩
      have hg9:=HG8.out.new (Chg.of_below (S:=fun _=>False) hb9)
      have k0:=hg9.row.cell.1
      have HB9:=Lib.hid hb9
      clear hb9 hg9))
 go_wp2_with fail
 go_ret2
 have d1:Below w.heap.size w w1.drew:=⟨HB1.out.os,HB1.out.tape,HB1.out.output,HB1.out.size,HB1.out.block⟩
 have d8:=d1.trans (HB8.out.mono d1.size)
 exact ⟨rfl,d8.trans (HB9.out.mono d8.size)⟩
end Go.Proofs.YtajmeimjaapagaaGreatDoor
namespace Go.Proofs.YtajmeimjaapagaaGreatDoor
open Go.RowKit Go.Deep
def valA (acc:Nat) (l:List UInt8):Nat:=l.foldl (fun a b=>a*10+(b.toNat - 48)) acc
theorem valA_lt:∀ (l1 l2:List UInt8),l1.length=l2.length→(∀ b∈l1,isDig b)→(∀ b∈l2,isDig b)→∀ a1 a2,a2<a1→valA a2 l2<valA a1 l1
 | [],[],_,_,_,a1,a2,h=>h
 | x :: l1,y :: l2,hl,h1,h2,a1,a2,h=>by
  have hx:=h1 x (List.mem_cons_self ..)
  have hy:=h2 y (List.mem_cons_self ..)
  have e1:valA a2 (y :: l2)=valA (a2*10+(y.toNat - 48)) l2:=rfl
  have e2:valA a1 (x :: l1)=valA (a1*10+(x.toNat - 48)) l1:=rfl
  rw [e1,e2]
  refine valA_lt l1 l2 (by simpa using hl) (fun b hb=>h1 b (List.mem_cons_of_mem _ hb)) (fun b hb=>h2 b (List.mem_cons_of_mem _ hb)) _ _ ?_
  unfold isDig at hx hy
  omega
theorem lex_val:∀ (l1 l2:List UInt8),l1.length=l2.length→(∀ b∈l1,isDig b)→(∀ b∈l2,isDig b)→∀ a,valA a l1≤valA a l2→l1≤l2
 | [],[],_,_,_,a,h=>List.le_refl _
 | x :: l1,y :: l2,hl,h1,h2,a,h=>by
  have hx:=h1 x (List.mem_cons_self ..)
  have hy:=h2 y (List.mem_cons_self ..)
  have h1':∀ b∈l1,isDig b:=fun b hb=>h1 b (List.mem_cons_of_mem _ hb)
  have h2':∀ b∈l2,isDig b:=fun b hb=>h2 b (List.mem_cons_of_mem _ hb)
  have hl':l1.length=l2.length:=by simpa using hl
  rw [List.cons_le_cons_iff]
  by_cases hlt:x<y
  ·exact .inl hlt
  ·by_cases he:x=y
   ·subst he
    exact .inr ⟨rfl,lex_val l1 l2 hl' h1' h2' _ h⟩
   ·exfalso
    have h3:y.toNat<x.toNat:=by
     have h4:¬ x.toNat<y.toNat:=fun h=>hlt (UInt8.lt_iff_toNat_lt.2 h)
     have h5:x.toNat≠y.toNat:=fun h=>he (UInt8.toNat_inj.1 h)
     omega
    have h6:valA (a*10+(y.toNat - 48)) l2<valA (a*10+(x.toNat - 48)) l1:=by
     refine valA_lt l1 l2 hl' h1' h2' _ _ ?_
     unfold isDig at hx hy
     omega
    have h7:valA (a*10+(x.toNat - 48)) l1≤valA (a*10+(y.toNat - 48)) l2:=h
    omega
theorem nameB_le (head:ByteArray) {u v:Nat} (hu:u≤99999999) (hv:v≤99999999) (h:u≤v):(nameB head u).data.toList≤(nameB head v).data.toList:=by
 rw [nameB_toList,nameB_toList]
 refine List.append_left_le (lex_val _ _ (by rw [dec8_length,dec8_length]) (dec8_dig u) (dec8_dig v) 0 ?_)
 have e:∀ l,valA 0 l=val8 l:=fun _=>rfl
 rw [e,e,val8_dec8 u (by omega),val8_dec8 v (by omega)]
 exact h
theorem nameB_inj (head:ByteArray) {u v:Nat} (hu:u≤99999999) (hv:v≤99999999) (h:nameB head u=nameB head v):u=v:=by
 have h1:=place_name head u hu
 rw [h,place_name head v hv] at h1
 exact (Option.some.inj h1).symm
theorem nameB_pre (head:ByteArray) (u:Nat):Lib.hasPrefix (nameB head u).data.toList head.data.toList=true:=by
 rw [nameB_toList]
 simp [Lib.hasPrefix]
theorem gathF_at (st:St) (x:RowM×Bool×List ByteArray) (u:Nat) (hu:u≤99999999) (head:ByteArray) (hh:x.1.head=head) :
 gathF st x (nameB head u)=((takeR x.1 x.2.1 u (st.len (nameB head u))).1,(takeR x.1 x.2.1 u (st.len (nameB head u))).2.1,if (takeR x.1 x.2.1 u (st.len (nameB head u))).2.2=true then x.2.2 else x.2.2 ++ [nameB head u]):=by
 unfold gathF
 rw [hh,place_name head u hu]
def Chunks:List FileM→List UInt8→Prop
 | [],all=>all=[]
 | f :: fl,all=>f.bytes=all.take 16∧all≠[]∧Chunks fl (all.drop 16)
theorem Chunks.nil {l:List FileM} (h:Chunks l []):l=[]:=by
 cases l with
 | nil=>rfl
 | cons f l=>exact absurd rfl h.2.1
theorem putB_end (b s:List UInt8):putB b b.length s=b ++ s:=by
 unfold putB
 split
 ·rename_i h;rw [h,List.append_nil]
 ·have h1:(b ++ List.replicate (b.length+s.length - b.length) 0).take b.length=b:=by
   rw [List.take_append_of_le_length (Nat.le_refl _),List.take_length]
  have h2:(b ++ List.replicate (b.length+s.length - b.length) (0:UInt8)).drop (b.length+s.length)=[]:=by
   refine List.drop_eq_nil_of_le ?_
   rw [List.length_append,List.length_replicate]
   omega
  rw [h1,h2,List.append_nil]
structure AppF (f:FileM):Prop where
 img:f.image=f.bytes.take f.image.length
 wr:∀ x∈f.writes,f.image.length≤x.at_∧∀ k,k<x.s.size→x.s.data.toList[k]? = f.bytes[x.at_+k]?
theorem AppF.empty:AppF emptyF:=⟨rfl,fun x hx=>by cases hx⟩
theorem size_toList (s:ByteArray):s.data.toList.length=s.size:=by rw [Array.length_toList];rfl
structure Like (i0:Nat) (bs c:List UInt8):Prop where
 low:i0≤c.length
 high:c.length≤bs.length
 get:∀ j,j<c.length→c[j]? = bs[j]?∨(i0≤j∧c[j]? = some 0)
theorem Like.refl {i0:Nat} {bs:List UInt8} (h:i0≤bs.length):Like i0 bs bs:=⟨h,Nat.le_refl _,fun _ _=>.inl rfl⟩
theorem find_drop {fs:List (ByteArray×FileM)} {a b:ByteArray} (hab:a≠b):(dropF fs b).find? (fun p=>decide (p.1=a))=fs.find? (fun p=>decide (p.1=a)):=by
 unfold dropF
 induction fs with
 | nil=>rfl
 | cons p fs ih=>
  rw [List.filter_cons]
  by_cases hb:p.1=b
  ·rw [if_neg (by simp [hb]),ih,List.find?_cons_of_neg (by simp [hb,Ne.symm hab])]
  ·rw [if_pos (by simp [hb]),List.find?_cons,List.find?_cons,ih]
theorem find_deleteAll {st:St} {a:ByteArray} {ts:List ByteArray} (h:a∉ts):(deleteAll st ts).find a=st.find a:=by
 unfold deleteAll
 induction ts generalizing st with
 | nil=>rfl
 | cons t ts ih=>
  rw [List.mem_cons,not_or] at h
  rw [List.foldl_cons,ih h.2]
  unfold St.find removeS
  simp only
  rw [find_drop h.1]
attribute [local go_sem] fr_opt
structure DiskG (w0 w:World) (d:Nat) (g:Gh) (st:St):Prop where
 disk:DiskAt w g st
 d:g.d=d
 chg:Chg (fun _=>False) w0 w
 low:∀ k∈g.fp,w0.heap.size≤k
end Go.Proofs.YtajmeimjaapagaaGreatDoor
namespace Go.Proofs.YtajmeimjaapagaaGreatDoor
open Go.RowKit Go.Deep
attribute [local go_sem] fr_opt
def shrinkM (m:RowM) (e:Int):RowM:={ m with end_:=e,synced:=min m.synced e }
set_option maxRecDepth 100000 in
theorem shrink_any (w0:World) (b:Nat) (g:Gh) (st:St) (m:RowM) (a:Int) (w:World) (h:RowG w0 w b g st m) :
 Calls Tryz.prog 107 #[.pointer (some ⟨b,0,none⟩),.int .i64 a] w fun e w'=>e = .returned (.tuple #[])∧RowG w0 w' b g st (shrinkM m a)∧RowTo w b g g w':=by
 obtain ⟨c0,c1,c2,c3,c4,c5,c6,c7,hz⟩:=h.row.cell
 have z4:=hz 4
 have z6:=hz 6
 have H:=Lib.hid h
 clear hz h
 go_enter Tryz.func107,Tryz.ntmps107
 go_wp2_with fail
 go_end0
 have h1:=H.out.set 4 (.int .i64 a) { m with end_:=a } rfl
 have h2:=h1.1.set 6 (.int .i64 (min m.synced a)) (shrinkM m a) rfl
 have h3:=h1.2.trans h2.2
 refine ⟨rfl,?_,?_⟩
 ·first|exact h2.1|exact h2.1.drew|exact h2.1.drewN _
 ·first|exact h3|exact ⟨h3.chg.drew,h3.fp,h3.d⟩
theorem cell_set_other4 (b:Nat) (F:Int) {w:World} {d:Nat} {m:RowM} (h:RowAt w b d m):(w.setCell ⟨b,5,none⟩ (.int .i64 F)).cell? ⟨b,4,none⟩=some (.int .i64 m.end_):=
 (h.set 5 (.int .i64 F) { m with next:=F } rfl).cell.2.2.2.2.1
def fromM (m:RowM) (a:Int):Int:=max ((a+m.size - 1) - (a+m.size - 1) % m.size) (m.begin_+m.size)
def leaveM (m:RowM) (a:Int):RowM:=if fromM m a<m.next then shrinkM { m with next:=fromM m a } (min m.end_ (fromM m a)) else m
def leaveS (m:RowM) (st:St) (a:Int):St:=deleteAll st (rowNames m (fromM m a).toNat)
theorem rowNames_nil {m:RowM} {u:Int} (h0:0≤u) (h:¬ u<m.next):rowNames m u.toNat=[]:=by
 unfold rowNames
 rw [plS_done _ _ _ (by omega)]
 rfl
theorem rowNames_pos {m:RowM} {u:Int} (h0:0≤u) (hz:0<m.size) (h:u<m.next):0<(rowNames m u.toNat).length:=by
 unfold rowNames
 rw [plS_step _ _ _ (by omega) (by omega)]
 simp
set_option maxHeartbeats 2000000 in
set_option maxRecDepth 100000 in
theorem leave_any (w0:World) (b:Nat) (g:Gh) (st:St) (m:RowM) (a:Int) (n:Nat) (w:World) (h:RowG w0 w b g st m) (hk:Calm n st) (hn:n≤1048576) (hb0:0≤m.begin_) (hs1:16≤m.size) (hs2:m.size≤4096) (hh:m.head.size≤1048576)
 (hnx:m.next≤100000000) (hbn:m.begin_≤m.next) (ha0:m.begin_≤a) (ha1:a≤100000000) (hf:∀ t∈rowNames m (fromM m a).toNat,(st.find t).isSome=true) :
 Calls Tryz.prog 104 #[.pointer (some ⟨b,0,none⟩),.int .i64 a] w fun e w'=>e = .returned (.int .i64 0)∧∃ g',RowG w0 w' b g' (leaveS m st a) (leaveM m a)∧RowTo w b g g' w':=by
 have hne:¬ m.size=0:=by omega
 have hm0:0≤(a+m.size - 1) % m.size:=Int.emod_nonneg _ hne
 have hm1:(a+m.size - 1) % m.size<m.size:=Int.emod_lt_of_pos _ (by omega)
 obtain ⟨pl,hpl⟩:∃ pl,pl=(a+m.size - 1) - (a+m.size - 1) % m.size:=⟨_,rfl⟩
 obtain ⟨F,hF⟩:∃ F,F=fromM m a:=⟨_,rfl⟩
 have hFp:F=max pl (m.begin_+m.size):=by rw [hF,hpl];rfl
 have hF0:0≤F:=by omega
 have hF1:F≤1099511627776:=by omega
 have hpl1:pl≤1099511627776:=by omega
 have hP:∀ W,RowG w0 W b g st m→Calls Tryz.prog 89 #[.pointer (some ⟨b,0,none⟩),.int .i64 (a+m.size - 1)] W fun e w'=>e = .returned (.int .i64 pl)∧∃ q,w'=W.drewN q:=fun W hW=>by
  rw [hpl]
  exact (rplace_any b g.d m (a+m.size - 1) W hW.row (by omega) (by omega) hs1 hs2).mono fun _ _ hh=>⟨hh.1,0,hh.2.symm⟩
 have hw1:IntKind.i64.wrap (a+m.size)=a+m.size:=IntWalk.i64_in _ (by omega)
 have hw2:IntKind.i64.wrap (a+m.size - 1)=a+m.size - 1:=IntWalk.i64_in _ (by omega)
 have hw3:IntKind.i64.wrap (m.begin_+m.size)=m.begin_+m.size:=IntWalk.i64_in _ (by omega)
 unfold leaveS leaveM
 rw [←hF] at hf ⊢
 by_cases hbe:m.begin_=m.next
 ·have hlt:¬ F<m.next:=by omega
  rw [if_neg hlt,rowNames_nil hF0 hlt]
  obtain ⟨c0,c1,c2,c3,c4,c5,c6,c7,hz⟩:=h.row.cell
  have hbb:(m.begin_ == m.next)=true:=by simpa using hbe
  have H:=Lib.hid h
  clear h hz hbe hlt hP hf hF hpl hFp hm0 hm1
  go_enter Tryz.func104,Tryz.ntmps104
  go_wp2_with fail
  go_quiet (fail)
  go_wp2_with fail
  go_ret
  exact ⟨rfl,g,H.out.drewN _,RowTo.new b g ((Chg.refl _ _).drewN _)⟩
 ·have hbb:(m.begin_ == m.next)=false:=by simpa using hbe
  have hN:∀ W,RowG w0 W b g st m→Calls Tryz.prog 156 #[.pointer (some ⟨b,0,none⟩),.int .i64 F] W fun e w'=>∃ v,e = .returned v∧Strs w' W.heap.size v (rowNames m F.toNat)∧Below W.heap.size W w':=fun W hW=>by
   have:=names_any w0 b g st m m.next.toNat m.size.toNat F.toNat W hW (by omega) (by omega) (by omega) (by omega) (by omega) hh (by omega)
   rwa [show ((F.toNat:Nat):Int)=F by omega] at this
  have hsz:∀ t∈rowNames m F.toNat,t.size≤maxLen:=fun t ht=>by
   obtain ⟨p,_,rfl⟩:=List.mem_map.1 ht
   rw [nameB_size]
   unfold maxLen
   omega
  have hlen:(rowNames m F.toNat).length≤100000000:=by
   unfold rowNames
   rw [List.length_map]
   have:=plS_length (x:=m.next.toNat) (z:=m.size.toNat) (by omega) m.next.toNat F.toNat (by omega)
   omega
  have hpos:F<m.next→0<(rowNames m F.toNat).length:=fun hlt=>rowNames_pos hF0 (by omega) hlt
  have hnil:m.next≤F→rowNames m F.toNat=[]:=fun hlt=>rowNames_nil hF0 (by omega)
  obtain ⟨rs,hrs⟩:∃ rs,rs=rowNames m F.toNat:=⟨_,rfl⟩
  rw [←hrs] at hN hsz hlen hf hpos hnil ⊢
  have hDL:∀ W0 W v,DiskAt W0 g st→RowG w0 W b g st m→Strs W W0.heap.size v rs→Calls Tryz.prog 101 #[.pointer (some ⟨g.d,0,none⟩),v] W (OpTo g 0 (deleteAll st rs) W):=fun W0 W v hd0 hW hsv=>by
   have:=delete_any g st v rs W hW.disk (strs_up hsv (Nat.zero_le _)) (out_new hd0 hsv (Nat.le_refl _)) hsz (by omega) hk.good.fuse hk.good.sizeOk (by have:=hk.good.size;have:=hk.good.cap;omega)
   rwa [hk.deleteE hf,hk.deleteS hf] at this
  obtain ⟨m',hm'⟩:∃ m',m'=if F<m.next then shrinkM { m with next:=F } (min m.end_ F) else m:=⟨_,rfl⟩
  rw [←hm']
  have hm1:F<m.next→m'=shrinkM { m with next:=F } (min m.end_ F):=fun hx=>by rw [hm',if_pos hx]
  have hm2:m.next≤F→m'=m:=fun hx=>by rw [hm',if_neg (by omega)]
  have HM1:=Lib.hid hm1
  have HM2:=Lib.hid hm2
  clear hm1 hm2 hm'
  obtain ⟨n',hn'⟩:∃ n',n'=rs.length:=⟨_,rfl⟩
  rw [←hn'] at hlen hpos
  obtain ⟨c0,c1,c2,c3,c4,c5,c6,c7,hz⟩:=h.row.cell
  have H:=Lib.hid h
  have HP:=Lib.hid hP
  have HNN:=Lib.hid hN
  have HDL:=Lib.hid hDL
  have HNL:=Lib.hid hn'
  have HFP:=Lib.hid hFp
  have HNIL:=Lib.hid hnil
  have HPOS:=Lib.hid hpos
  clear h hz hP hN hDL hn' hFp hf hsz hF hpl hm0 hm1 hrs hnil hpos hbe hk c0 c1 c4 c6 c7
  go_enter Tryz.func104,Tryz.ntmps104
  go_wp2_with fail
  go_quiet (fail)
  go_wp2_with fail
  generalize hwa:w.drewN _=wa
  have hga:RowG w0 wa b g st m:=hwa▸H.out.drewN _
  have hta:RowTo w b g g wa:=hwa▸RowTo.new b g ((Chg.refl _ _).drewN _)
  obtain ⟨c0,c1,c2,c3,c4,c5,c6,c7,hz⟩:=hga.row.cell
  have HGA:=Lib.hid hga
  have HTA:=Lib.hid hta
  clear hz hga hta hwa c0 c1 c4 c5 c6 c7
  go_quiet ((go_at_call 89;exact Calls.quiet_of (HP.out _ (HGA.out.drewN _))))
  go_wp2_with fail
  generalize hwb:wa.drewN _=wb
  have hgb:RowG w0 wb b g st m:=hwb▸HGA.out.drewN _
  have htb:RowTo w b g g wb:=HTA.out.trans (hwb▸RowTo.new b g ((Chg.refl _ _).drewN _))
  have HGB:=Lib.hid hgb
  have HTB:=Lib.hid htb
  clear hgb htb hwb c2 c3 HGA HTA
  try rw [←HFP.out]
  refine (HNN.out _ HGB.out).mono ?_
  rintro e w2 ⟨rv,rfl,hsv,hb2⟩
  obtain ⟨ra,rc,hrv⟩:=hsv.form
  rw [←HNL.out] at hrv
  subst hrv
  have hg2:=HGB.out.new (Chg.of_below (S:=fun _=>False) hb2)
  have ht2:=HTB.out.trans (RowTo.new b g (Chg.of_below hb2))
  have k0:=hg2.row.cell.1
  have HG2:=Lib.hid hg2
  have HT2:=Lib.hid ht2
  have HSV:=Lib.hid hsv
  clear hg2 ht2 hsv hb2
  by_cases hlt:F<m.next
  ·have hps:=HPOS.out hlt
   have hn0:((n':Int) == 0)=false:=by simp;omega
   have HLT:=Lib.hid hlt
   clear hlt
   go_wp2_with (go_at_call 101;refine (HDL.out _ _ _ HGB.out.disk HG2.out HSV.out).mono ?_;rintro e w3 ⟨rfl,g3,hd3,ht3⟩;have h3:=HG2.out.op hd3 ht3;have z5:=h3.1.row.cell.2.2.2.2.2.2.2.2 5;have k5:=h3.1.row.cell.2.2.2.2.2.1;have y4:=(cell_set_other4 b F h3.1.row))
   have h4:=h3.1.set 5 (.int .i64 F) { m with next:=F } rfl
   have HSH:=Lib.hid (shrink_any w0 b g3 _ _ (min m.end_ F) _ h4.1)
   have HT4:=Lib.hid (HT2.out.trans (h3.2.trans h4.2))
   clear h3 h4 hd3 ht3 z5 k5 y4
   refine HSH.out.mono ?_
   rintro e w5 ⟨rfl,hg5,ht5⟩
   have HG5:=Lib.hid hg5
   have HT5:=Lib.hid (HT4.out.trans ht5)
   clear hg5 ht5 HSH
   go_wp2_with fail
   go_ret
   rw [HM1.out HLT.out]
   exact ⟨rfl,g3,HG5.out,HT5.out⟩
  ·have hlt':m.next≤F:=by omega
   have hrs0:=HNIL.out hlt'
   have HLT:=Lib.hid hlt'
   obtain rfl:n'=0:=by rw [HNL.out,hrs0];rfl
   have HD0:Hid (deleteAll st rs=st):=by show _=_;rw [hrs0];rfl
   clear hrs0 hlt hlt'
   go_wp2_with fail
   go_ret
   rw [HM2.out HLT.out,HD0.out]
   exact ⟨rfl,g,HG2.out,HT2.out⟩
theorem Calm.cutE {n:Nat} {st:St} (h:Calm n st) {nm:ByteArray} {f:FileM} {k:Int} (hf:st.find nm=some f) (h0:0≤k) (h1:k≤f.bytes.length):Go.Proofs.YtajmeimjaapagaaGreatDoor.cutE st nm k=0:=by
 unfold Go.Proofs.YtajmeimjaapagaaGreatDoor.cutE
 rw [if_neg (by rw [h.down];simp),hf]
 simp only
 rw [if_neg (by omega),h.burnE]
set_option maxHeartbeats 2000000 in
set_option maxRecDepth 100000 in
theorem cut_end (w0:World) (b:Nat) (g:Gh) (st st1:St) (m m1:RowM) (a:Int) (w:World) (h:RowG w0 w b g st m) (ha0:m.begin_≤a) (ha1:a≤m.end_)
 (hL:∀ W,RowG w0 W b g st m→Calls Tryz.prog 104 #[.pointer (some ⟨b,0,none⟩),.int .i64 a] W fun e w'=>e = .returned (.int .i64 0)∧∃ g',RowG w0 w' b g' st1 m1∧RowTo W b g g' w') (he:m1.end_≤a) :
 Calls Tryz.prog 65 #[.pointer (some ⟨b,0,none⟩),.int .i64 a] w fun e w'=>e = .returned (.int .i64 0)∧∃ g',RowG w0 w' b g' st1 m1∧RowTo w b g g' w':=by
 obtain ⟨c0,c1,c2,c3,c4,c5,c6,c7,hz⟩:=h.row.cell
 have HL:=Lib.hid (hL w h)
 clear h hz hL c0 c1 c2 c5 c6 c7
 go_enter Tryz.func65,Tryz.ntmps65
 go_wp2_with fail
 refine HL.out.mono ?_
 rintro e w1 ⟨rfl,g1,hg1,ht1⟩
 have d4:=hg1.row.cell.2.2.2.2.1
 have HG1:=Lib.hid hg1
 have HT1:=Lib.hid ht1
 clear hg1 ht1 c3 c4
 go_wp2_with fail
 go_ret
 exact ⟨rfl,g1,HG1.out,HT1.out⟩
set_option maxHeartbeats 4000000 in
set_option maxRecDepth 100000 in
theorem cut_mid (w0:World) (b:Nat) (g:Gh) (st st1:St) (m m1:RowM) (a:Int) (n:Nat) (f:FileM) (w:World) (h:RowG w0 w b g st m) (ha0:m.begin_≤a) (ha1:a≤m.end_) (ha2:a≤1099511627776)
 (hL:∀ W,RowG w0 W b g st m→Calls Tryz.prog 104 #[.pointer (some ⟨b,0,none⟩),.int .i64 a] W fun e w'=>e = .returned (.int .i64 0)∧∃ g',RowG w0 w' b g' st1 m1∧RowTo W b g g' w') (he:a<m1.end_)
 (hk:Calm n st1) (hn:n≤1048576) (hs1:16≤m1.size) (hs2:m1.size≤4096) (hh:m1.head.size≤1048576) (hx0:m1.size≤m1.next) (hx1:m1.next≤100000000) (hl0:m1.next - m1.size≤a) (hf:st1.find (nameB m1.head (m1.next - m1.size).toNat)=some f) (hfl:a - (m1.next - m1.size)≤f.bytes.length) :
 Calls Tryz.prog 65 #[.pointer (some ⟨b,0,none⟩),.int .i64 a] w fun e w'=>e = .returned (.int .i64 0)∧∃ g',RowG w0 w' b g' (cutS st1 (nameB m1.head (m1.next - m1.size).toNat) (a - (m1.next - m1.size))) (shrinkM m1 a)∧RowTo w b g g' w':=by
 obtain ⟨c0,c1,c2,c3,c4,c5,c6,c7,hz⟩:=h.row.cell
 obtain ⟨la,hla⟩:∃ la,la=m1.next - m1.size:=⟨_,rfl⟩
 obtain ⟨u,hu⟩:∃ u:Nat,(u:Int)=la:=⟨la.toNat,by omega⟩
 have hun:la.toNat=u:=by omega
 rw [←hla] at hl0 hf hfl ⊢
 rw [hun] at hf ⊢
 have hLs:∀ W g1,RowG w0 W b g1 st1 m1→Calls Tryz.prog 106 #[.pointer (some ⟨b,0,none⟩)] W fun e w'=>e = .returned (.int .i64 la)∧Chg (fun _=>False) W w':=fun W g1 hW=>by
  rw [hla]
  refine (last_any b g1.d m1 W hW.row (by omega) (by omega) (by omega) (by omega)).mono ?_
  rintro e w' ⟨h1,q,rfl⟩
  exact ⟨h1,(Chg.refl _ _).drewN _⟩
 have hNm:∀ W g1,RowG w0 W b g1 st1 m1→Calls Tryz.prog 90 #[.pointer (some ⟨b,0,none⟩),.int .i64 la] W fun e w'=>e = .returned (.string (nameB m1.head u))∧Below W.heap.size W w':=fun W g1 hW=>by
  rw [←hu]
  exact rname_any b g1.d m1 W hW.row hW.tab u (by omega) (by omega)
 have hCt:∀ W g1,RowG w0 W b g1 st1 m1→Calls Tryz.prog 105 #[.pointer (some ⟨g1.d,0,none⟩),.string (nameB m1.head u),.int .i64 (a - la)] W (OpTo g1 0 (cutS st1 (nameB m1.head u) (a - la)) W):=fun W g1 hW=>by
  have:=cut_any g1 st1 (nameB m1.head u) (a - la) W hW.disk (by rw [nameB_size];unfold maxLen;omega) hk.good.fuse (by have:=hk.good.size;have:=hk.good.cap;omega) hk.good.sizeOk (fun f hf=>by
   have hm:=find_mem hf
   exact ⟨hk.good.allIn (by omega) _ hm,(hk.good.files _ hm).bytes⟩)
  have hce:cutE st1 (nameB m1.head u) (a - la)=0:=hk.cutE (k:=a - la) hf (by omega) hfl
  rwa [hce] at this
 have hwr:IntKind.i64.wrap (a - la)=a - la:=IntWalk.i64_in _ (by omega)
 have HL:=Lib.hid (hL w h)
 have HLS:=Lib.hid hLs
 have HNM:=Lib.hid hNm
 have HCT:=Lib.hid hCt
 clear h hz hL hLs hNm hCt hf hfl hla hu hun c0 c1 c2 c5 c6 c7
 go_enter Tryz.func65,Tryz.ntmps65
 go_wp2_with fail
 refine HL.out.mono ?_
 rintro e w1 ⟨rfl,g1,hg1,ht1⟩
 have d4:=hg1.row.cell.2.2.2.2.1
 have k0:=hg1.row.cell.1
 have HG1:=Lib.hid hg1
 have HT1:=Lib.hid ht1
 clear hg1 ht1 c3 c4
 go_wp2_with fail
 go_region_held3 (fun w'=>w'.cell? ⟨b,0,none⟩=some (.pointer (some ⟨g1.d,0,none⟩)))
  (first|exact k0|go_keep)
  (first
   | (go_at_call 106
      ((with_reducible refine (HLS.out _ g1 ?_).mono ?_))
      ·exact HG8.out
      rintro e w9 ⟨rfl,hc9⟩
      have hg9:=HG8.out.new hc9
      have k0:=hg9.row.cell.1
      have HT9:Hid (RowTo w b g g1 w9):=HT8.out.trans (RowTo.new b g1 hc9)
      have HG9:=Lib.hid hg9
      clear hc9 hg9)
   | (go_at_call 106
      ((with_reducible refine (HLS.out _ g1 ?_).mono ?_))
      ·exact HG1.out.drew
      rintro e w7 ⟨rfl,hc7⟩
      have hg7:=HG1.out.drew.new hc7
      have k0:=hg7.row.cell.1
      have HT7:Hid (RowTo w b g g1 w7):=HT1.out.trans (RowTo.new b g1 ((Chg.refl _ _).drew.trans hc7 (fun _ _ x=>x)))
      have HG7:=Lib.hid hg7
      clear hc7 hg7)
   | (go_at_call 90
      ((with_reducible refine (HNM.out _ g1 ?_).mono ?_))
      ·exact HG7.out
      rintro e w8 ⟨rfl,hb8⟩
      have hg8:=HG7.out.new (Chg.of_below (S:=fun _=>False) hb8)
      have k0:=hg8.row.cell.1
      have HT8:Hid (RowTo w b g g1 w8):=HT7.out.trans (RowTo.new b g1 (Chg.of_below hb8))
      have HG8:=Lib.hid hg8
      clear hb8 hg8)
   | (go_at_call 105
      ((with_reducible refine (HCT.out _ g1 ?_).mono ?_))
      ·exact HG9.out
      rintro e w10 ⟨rfl,g2,hd2,ht2⟩
      have hga:=HG9.out.op hd2 ht2
      have k0:=hga.1.row.cell.1
      rw [hga.2.d] at k0
      have HTA:Hid (RowTo w b g g2 w10):=HT9.out.trans hga.2
      have HGA:=Lib.hid hga.1
      clear hd2 ht2 hga))
 clear k0 d4
 go_wp2_with fail
 refine (shrink_any w0 b g2 _ _ a _ HGA.out).mono ?_
 rintro e w11 ⟨rfl,hg11,ht11⟩
 have HGB:=Lib.hid hg11
 have HTB:=Lib.hid (HTA.out.trans ht11)
 clear hg11 ht11
 go_wp2_with fail
 go_ret
 exact ⟨rfl,g2,HGB.out,HTB.out⟩
end Go.Proofs.YtajmeimjaapagaaGreatDoor
namespace Go.Proofs.YtajmeimjaapagaaGreatDoor
open Go.RowKit Go.Deep
theorem find_set {fs:List (ByteArray×FileM)} {a b:ByteArray} (f:FileM) (hab:a≠b):(setF fs b f).find? (fun p=>decide (p.1=a))=fs.find? (fun p=>decide (p.1=a)):=by
 unfold setF
 induction fs with
 | nil=>rfl
 | cons p l ih=>
  rw [List.map_cons]
  by_cases hp:p.1=b
  ·rw [if_pos hp,List.find?_cons_of_neg (by simp [Ne.symm hab]),List.find?_cons_of_neg (by simp [hp,Ne.symm hab]),ih]
  ·rw [if_neg hp,List.find?_cons,List.find?_cons,ih]
theorem find_new {fs:List (ByteArray×FileM)} {a b:ByteArray} (f:FileM) (hab:a≠b):(fs ++ [(b,f)]).find? (fun p=>decide (p.1=a))=fs.find? (fun p=>decide (p.1=a)):=by
 rw [List.find?_append,List.find?_cons_of_neg (by simp [Ne.symm hab])]
 simp
theorem find_burn (st:St) (a:ByteArray):(burnS st).find a=st.find a:=by unfold St.find;rw [burnS_fs]
theorem find_create {st:St} {a b:ByteArray} (hab:a≠b):(createS st b).find a=st.find a:=by
 unfold createS
 (repeat' split)<;>first
  | rfl
  | exact find_burn _ _
  | (unfold St.find;simp only;rw [find_new emptyF hab])
theorem find_write {st:St} {a b:ByteArray} {k:Int} {s:ByteArray} (hab:a≠b):(writeS st b k s).find a=st.find a:=by
 unfold writeS
 (repeat' split)<;>first
  | rfl
  | exact find_burn _ _
  | (unfold St.find;simp only;rw [find_set _ hab])
theorem find_cut {st:St} {a b:ByteArray} {k:Int} (hab:a≠b):(cutS st b k).find a=st.find a:=by
 unfold cutS
 (repeat' split)<;>first
  | rfl
  | exact find_burn _ _
  | (unfold St.find;simp only;rw [find_set _ hab])
theorem find_sync1 {st:St} {a b:ByteArray} (hab:a≠b):(sync1 st b).find a=st.find a:=by
 unfold sync1
 split
 ·rfl
 ·unfold St.find;simp only;rw [find_set _ hab]
theorem find_syncAll {st:St} {a:ByteArray} {ts:List ByteArray} (h:a∉ts):(syncAll st ts).find a=st.find a:=by
 unfold syncAll
 induction ts generalizing st with
 | nil=>rfl
 | cons t ts ih=>
  rw [List.mem_cons,not_or] at h
  rw [List.foldl_cons,ih h.2,find_sync1 h.1]
theorem names_of (head:ByteArray) (st:St) (L:List ByteArray) (hn:(st.fs.map (·.1)).Nodup) (hL:L.Pairwise fun x y=>x.data.toList≤y.data.toList) (hLn:L.Nodup)
 (hm:∀ nm,nm∈L↔(nm∈st.fs.map (·.1)∧Lib.hasPrefix nm.data.toList head.data.toList=true)):namesS head st=L:=by
 have h1:(st.fs.filter fun p=>Lib.hasPrefix p.1.data.toList head.data.toList).map (fun p=>p.1.data.toList)=((st.fs.map (·.1)).filter fun nm=>Lib.hasPrefix nm.data.toList head.data.toList).map fun nm=>nm.data.toList:=by
  rw [List.filter_map,List.map_map]
  rfl
 have h2:(((st.fs.map (·.1)).filter fun nm=>Lib.hasPrefix nm.data.toList head.data.toList)).Perm L:=by
  rw [List.perm_ext_iff_of_nodup (List.filter_sublist.nodup hn) hLn]
  intro nm
  rw [hm nm,List.mem_filter]
 unfold namesS
 rw [h1]
 have h3:(((st.fs.map (·.1)).filter fun nm=>Lib.hasPrefix nm.data.toList head.data.toList).map fun nm=>nm.data.toList).mergeSort (fun x y=>decide (x≤y))=(L.map fun nm=>nm.data.toList).mergeSort fun x y=>decide (x≤y):=mergeSort_of_perm (h2.map _)
 rw [h3,List.mergeSort_of_pairwise,List.map_map]
 ·exact (List.map_congr_left fun nm _=>by simp).trans (List.map_id L)
 ·rw [List.pairwise_map]
  exact hL.imp fun h=>decide_eq_true h
theorem names_rise (head:ByteArray):∀ (ps:List Nat),ps.Pairwise (· < ·)→(∀ p∈ps,p≤99999999)→(ps.map (nameB head)).Pairwise (fun x y=>x.data.toList≤y.data.toList)∧(ps.map (nameB head)).Nodup
 | [],_,_=>⟨List.Pairwise.nil,List.nodup_nil⟩
 | p :: ps,h,hb=>by
  rw [List.pairwise_cons] at h
  obtain ⟨h1,h2⟩:=names_rise head ps h.2 (fun q hq=>hb q (List.mem_cons_of_mem _ hq))
  have hp:=hb p (List.mem_cons_self ..)
  rw [List.map_cons,List.pairwise_cons,List.nodup_cons]
  refine ⟨⟨fun y hy=>?_,h1⟩,fun hx=>?_,h2⟩
  ·obtain ⟨q,hq,rfl⟩:=List.mem_map.1 hy
   exact nameB_le head hp (hb q (List.mem_cons_of_mem _ hq)) (Nat.le_of_lt (h.1 q hq))
  ·obtain ⟨q,hq,hx⟩:=List.mem_map.1 hx
   have:=nameB_inj head (hb q (List.mem_cons_of_mem _ hq)) hp hx
   have:=h.1 q hq
   omega
theorem plS_rise {x z:Nat} (hz:0<z) (f u:Nat) (hf:x - u≤f):(plS x z u).Pairwise (· < ·):=by
 induction f generalizing u with
 | zero=>rw [plS_done x z u (by omega)];exact List.Pairwise.nil
 | succ f ih=>
  by_cases hu:u<x
  ·rw [plS_step x z u hz hu,List.pairwise_cons]
   refine ⟨fun p hp=>?_,ih (u+z) (by omega)⟩
   have:=plS_mem hz x (u+z) (by omega) p hp
   omega
  ·rw [plS_done x z u hu];exact List.Pairwise.nil
def rowAt (head:ByteArray) (z b0 e x:Nat):RowM:=⟨head,z,b0,e,x,0,0⟩
theorem take_next (head:ByteArray) (z b0 u len:Nat) (hu:(u:Int) % z=0) (hl:len≤z):takeR (rowAt head z b0 u u) false u len=(rowAt head z b0 (u+len) (u+z),false,true):=by
 unfold takeR rowAt
 simp only
 rw [if_neg (by omega),if_neg (by simp),if_neg (by simp)]
 simp
theorem take_first (head:ByteArray) (z u len:Nat) (hu:(u:Int) % z=0) (hl:len≤z):takeR (newRow head z) true u len=(rowAt head z u (u+len) (u+z),false,true):=by
 unfold takeR newRow rowAt
 simp only
 rw [if_neg (by omega),if_pos (by simp)]
 simp
theorem gath_segs (st:St) (head:ByteArray) (z j e b0 i1:Nat) (hz:16≤z) (hj:z*j≤100000000) (he:e≤z*j) (he2:z*j≤e+z) (hlen:∀ i,i1≤i→i<j→st.len (nameB head (z*i))=min z (e - z*i)) :
 ∀ (k i:Nat),i1≤i→i+k=j→z*i≤e→((plS (z*j) z (z*i)).map (nameB head)).foldl (gathF st) (rowAt head z b0 (if k=0 then e else z*i) (z*i),false,[])=(rowAt head z b0 e (z*j),false,[])
 | 0,i,h1,hk,hi=>by
  obtain rfl:i=j:=by omega
  rw [plS_done _ _ _ (Nat.lt_irrefl _)]
  rfl
 | k+1,i,h1,hk,hi=>by
  have hlt:z*i<z*j:=Nat.mul_lt_mul_of_pos_left (by omega) (by omega)
  have hs:z*(i+1)=z*i+z:=Nat.mul_succ z i
  have hle:z*(i+1)≤z*j:=Nat.mul_le_mul_left z (by omega)
  have hl:=hlen i h1 (by omega)
  have hmod:((z*i:Nat):Int) % z=0:=by rw [Int.natCast_mul];exact Int.mul_emod_right _ _
  rw [plS_step _ _ _ (by omega) hlt,List.map_cons,List.foldl_cons,gathF_at st _ (z*i) (by omega) head rfl,if_neg (by omega)]
  simp only [take_next head z b0 (z*i) _ hmod (show st.len (nameB head (z*i))≤z by omega)]
  rw [if_pos trivial,hl]
  by_cases hk0:k=0
  ·have hx:z*(i+1)=z*j:=by rw [show i+1=j by omega]
   subst hk0
   rw [plS_done _ _ _ (by omega)]
   rw [show z*i+min z (e - z*i)=e by omega,show z*i+z=z*j by omega]
   rfl
  ·have h2:z*(i+2)≤z*j:=Nat.mul_le_mul_left z (by omega)
   have h3:z*(i+2)=z*i+z+z:=by rw [Nat.mul_succ,hs]
   have:=gath_segs st head z j e b0 i1 hz hj he he2 hlen k (i+1) (by omega) (by omega) (by omega)
   rw [if_neg hk0,hs] at this
   rw [show z*i+min z (e - z*i)=z*i+z by omega]
   exact this
theorem gath_own (st:St) (head:ByteArray) (z j e i0:Nat) (hz:16≤z) (hj:z*j≤100000000) (he:e≤z*j) (he2:z*j≤e+z) (hlen:∀ i,i0≤i→i<j→st.len (nameB head (z*i))=min z (e - z*i)) (hi:i0<j) (hie:z*i0≤e) :
 ((plS (z*j) z (z*i0)).map (nameB head)).foldl (gathF st) (newRow head z,true,[])=(rowAt head z (z*i0) e (z*j),false,[]):=by
 have hlt:z*i0<z*j:=Nat.mul_lt_mul_of_pos_left hi (by omega)
 have hs:z*(i0+1)=z*i0+z:=Nat.mul_succ z i0
 have hle:z*(i0+1)≤z*j:=Nat.mul_le_mul_left z (by omega)
 have hl:=hlen i0 (Nat.le_refl _) hi
 have hmod:((z*i0:Nat):Int) % z=0:=by rw [Int.natCast_mul];exact Int.mul_emod_right _ _
 rw [plS_step _ _ _ (by omega) hlt,List.map_cons,List.foldl_cons,gathF_at st _ (z*i0) (by omega) head rfl]
 simp only [take_first head z (z*i0) _ hmod (show st.len (nameB head (z*i0))≤z by omega)]
 rw [if_pos trivial,hl]
 by_cases hk0:i0+1=j
 ·have hx:z*(i0+1)=z*j:=by rw [hk0]
  rw [plS_done _ _ _ (by omega)]
  rw [show z*i0+min z (e - z*i0)=e by omega,show z*i0+z=z*j by omega]
  rfl
 ·have h2:z*(i0+2)≤z*j:=Nat.mul_le_mul_left z (by omega)
  have h3:z*(i0+2)=z*i0+z+z:=by rw [Nat.mul_succ,hs]
  have:=gath_segs st head z j e (z*i0) i0 hz hj he he2 hlen (j - (i0+1)) (i0+1) (by omega) (by omega) (by omega)
  rw [if_neg (by omega),hs] at this
  rw [show z*i0+min z (e - z*i0)=z*i0+z by omega]
  exact this
theorem open_own (st:St) (head:ByteArray) (z j e i0:Nat) (hz:16≤z) (hj:z*j≤100000000) (he:e≤z*j) (he2:z*j≤e+z) (hlen:∀ i,i0≤i→i<j→st.len (nameB head (z*i))=min z (e - z*i)) (hi:i0<j) (hie:z*i0≤e)
 (hn:(st.fs.map (·.1)).Nodup) (hm:∀ nm,(nm∈st.fs.map (·.1)∧Lib.hasPrefix nm.data.toList head.data.toList=true)↔∃ p∈plS (z*j) z (z*i0),nm=nameB head p) :
 openM st head z = { rowAt head z (z*i0) e (z*j) with synced:=((z*i0:Nat):Int),touched:=((z*i0:Nat):Int)}∧openS st head z=st:=by
 have hb:∀ p∈plS (z*j) z (z*i0),p≤99999999:=fun p hp=>by
  have:=plS_mem (by omega) (z*j) (z*i0) (by omega) p hp
  omega
 obtain ⟨h1,h2⟩:=names_rise head _ (plS_rise (by omega) (z*j) (z*i0) (by omega)) hb
 have hN:=names_of head st ((plS (z*j) z (z*i0)).map (nameB head)) hn h1 h2 (fun nm=>by
  rw [hm nm,List.mem_map]
  exact ⟨fun ⟨p,hp,hx⟩=>⟨p,hp,hx.symm⟩,fun ⟨p,hp,hx⟩=>⟨p,hp,hx.symm⟩⟩)
 have hx:openX st head z=(rowAt head z (z*i0) e (z*j),false,[]):=by
  unfold openX gathS
  rw [hN]
  exact gath_own st head z j e i0 hz hj he he2 hlen hi hie
 unfold openM openS
 rw [hx]
 exact ⟨rfl,rfl⟩
structure RowI (n:Nat) (m:RowM) (st:St) (z i0 j e:Nat):Prop where
 calm:Calm n st
 head:m.head.size≤100
 size:m.size=(z:Int)
 z1:16≤z
 z2:z≤4096
 beg:m.begin_=((z*i0:Nat):Int)
 end_:m.end_=(e:Int)
 next:m.next=((z*j:Nat):Int)
 ij:i0≤j
 room:z*j≤99000000
 eb:z*i0≤e
 e1:e≤z*j
 e2:z*j≤e+z
 own:∀ nm,(nm∈st.fs.map (·.1)∧Lib.hasPrefix nm.data.toList m.head.data.toList=true)↔∃ p∈plS (z*j) z (z*i0),nm=nameB m.head p
 len:∀ i,i0≤i→i<j→st.len (nameB m.head (z*i))=min z (e - z*i)
 none:i0=j→i0=0
 t0:∃ t:Nat,m.touched=((z*t:Nat):Int)∧i0≤t∧z*t≤99000000
theorem plS_has {z j:Nat} (hz:0<z):∀ (k i:Nat),i+k=j→∀ q,i≤q→q<j→z*q∈plS (z*j) z (z*i)
 | 0,i,hk,q,h1,h2=>by omega
 | k+1,i,hk,q,h1,h2=>by
  have hlt:z*i<z*j:=Nat.mul_lt_mul_of_pos_left (by omega) hz
  rw [plS_step _ _ _ hz hlt]
  by_cases hq:q=i
  ·rw [hq];exact List.mem_cons_self ..
  ·have:=plS_has hz k (i+1) (by omega) q (by omega) h2
   rw [Nat.mul_succ] at this
   exact List.mem_cons_of_mem _ this
theorem len_find {st:St} {nm:ByteArray} {k:Nat} (h:nm∈st.fs.map (·.1)) (hl:st.len nm=k):∃ f,st.find nm=some f∧f.bytes.length=k:=by
 obtain ⟨p,hp,hx⟩:=List.mem_map.1 h
 have:=find_some_mem ⟨p,hp,hx⟩
 obtain ⟨f,hf⟩:=Option.isSome_iff_exists.1 this
 refine ⟨f,hf,?_⟩
 unfold St.len at hl
 rw [hf] at hl
 exact hl
theorem RowI.file {n:Nat} {m:RowM} {st:St} {z i0 j e:Nat} (h:RowI n m st z i0 j e) {i:Nat} (h1:i0≤i) (h2:i<j):∃ f,st.find (nameB m.head (z*i))=some f∧f.bytes.length=min z (e - z*i):=by
 have hz:=h.z1
 exact len_find ((h.own _).2 ⟨z*i,plS_has (by omega) (j - i0) i0 (by have:=h.ij;omega) i h1 h2,rfl⟩).1 (h.len i h1 h2)
theorem RowI.fresh {n:Nat} {m:RowM} {st:St} {z i0 j e:Nat} (h:RowI n m st z i0 j e):st.find (nameB m.head (z*j)) = .none:=by
 have hz:=h.z1
 cases hf:st.find (nameB m.head (z*j)) with
 | none=>rfl
 | some f=>
  exfalso
  have hm:nameB m.head (z*j)∈st.fs.map (·.1):=by
   unfold St.find at hf
   obtain ⟨p,hp,_⟩:=Option.map_eq_some_iff.1 hf
   have h1:=List.mem_of_find?_eq_some hp
   have h2:=List.find?_some hp
   simp only [decide_eq_true_eq] at h2
   exact List.mem_map.2 ⟨p,h1,h2⟩
  obtain ⟨p,hp,hx⟩:=(h.own _).1 ⟨hm,nameB_pre _ _⟩
  have h1:=plS_mem (by omega) (z*j) (z*i0) (by omega) p hp
  have h2:=h.room
  have:=nameB_inj m.head (by omega) (by omega) hx
  omega
theorem RowI.rowOk {n:Nat} {m:RowM} {st:St} {z i0 j e:Nat} (h:RowI n m st z i0 j e):RowOk n m st:=by
 have h1:=h.size
 have h2:=h.beg
 have h3:=h.end_
 have h4:=h.next
 have h5:=h.room
 have h6:=h.z1
 have h7:=h.z2
 have h8:=h.e1
 have h9:=h.e2
 refine ⟨h.calm,by omega,by omega,by omega,by omega,by omega,by omega,by have:=h.head;omega,fun he=>?_,fun he=>?_⟩
 ·rw [show m.next.toNat=z*j by omega]
  exact h.fresh
 ·have hne:i0<j:=by
   have:=h.ij
   have h10:=h.eb
   refine Nat.lt_of_le_of_ne this fun hx=>he ?_
   rw [h3,h4]
   subst hx
   omega
  obtain ⟨q,rfl⟩:∃ q,j=q+1:=⟨j - 1,by omega⟩
  have hs:z*(q+1)=z*q+z:=Nat.mul_succ z q
  obtain ⟨f,hf,hl⟩:=h.file (i:=q) (by omega) (by omega)
  refine ⟨by omega,f,?_,?_⟩
  ·rw [show (m.next - m.size).toNat=z*q by omega]
   exact hf
  ·rw [hl]
   omega
theorem RowI.open_ {n:Nat} {m:RowM} {st:St} {z i0 j e:Nat} (h:RowI n m st z i0 j e):RowI n (openM st m.head z) st z i0 j e∧openS st m.head z=st∧(openM st m.head z).head=m.head:=by
 have hz:=h.z1
 by_cases hij:i0<j
 ·obtain ⟨h1,h2⟩:=open_own st m.head z j e i0 h.z1 (by have:=h.room;omega) h.e1 h.e2 h.len hij h.eb h.calm.good.names h.own
  rw [h1]
  exact ⟨⟨h.calm,h.head,rfl,h.z1,h.z2,rfl,rfl,rfl,h.ij,h.room,h.eb,h.e1,h.e2,h.own,h.len,h.none,⟨i0,rfl,Nat.le_refl _,by have:=h.eb;have:=h.e1;have:=h.room;omega⟩⟩,h2,rfl⟩
 ·have hij2:i0=j:=by have:=h.ij;omega
  have hi0:=h.none hij2
  subst hij2
  subst hi0
  have he:e=0:=by have:=h.e1;omega
  subst he
  have hN:namesS m.head st=[]:=names_of m.head st [] h.calm.good.names List.Pairwise.nil List.nodup_nil (fun nm=>by
   rw [h.own nm,plS_done _ _ _ (by omega)]
   simp)
  have hx:openX st m.head z=(newRow m.head z,true,[]):=by
   unfold openX gathS
   rw [hN]
   rfl
  have hM:openM st m.head z=newRow m.head z:=by unfold openM;rw [hx];rfl
  have hS:openS st m.head z=st:=by unfold openS;rw [hx];rfl
  rw [hM]
  exact ⟨⟨h.calm,h.head,rfl,h.z1,h.z2,by simp [newRow],by simp [newRow],by simp [newRow],h.ij,h.room,h.eb,h.e1,h.e2,h.own,h.len,h.none,⟨0,by simp [newRow],Nat.le_refl _,by omega⟩⟩,hS,rfl⟩
theorem plS_iff {z:Nat} (hz:0<z) (i0 j p:Nat) (hij:i0≤j):p∈plS (z*j) z (z*i0)↔∃ i,i0≤i∧i<j∧p=z*i:=by
 constructor
 ·have:∀ (k i:Nat),i+k=j→∀ p∈plS (z*j) z (z*i),∃ q,i≤q∧q<j∧p=z*q:=by
   intro k
   induction k with
   | zero=>intro i hk p hp;rw [show i=j by omega,plS_done _ _ _ (by omega)] at hp;cases hp
   | succ k ih=>
    intro i hk p hp
    have hlt:z*i<z*j:=Nat.mul_lt_mul_of_pos_left (by omega) hz
    rw [plS_step _ _ _ hz hlt] at hp
    rcases List.mem_cons.1 hp with rfl|hp
    ·exact ⟨i,Nat.le_refl _,by omega,rfl⟩
    ·rw [←Nat.mul_succ] at hp
     obtain ⟨q,h1,h2,h3⟩:=ih (i+1) (by omega) p hp
     exact ⟨q,by omega,h2,h3⟩
  exact this (j - i0) i0 (by omega) p
 ·rintro ⟨i,h1,h2,rfl⟩
  exact plS_has hz (j - i0) i0 (by omega) i h1 h2
theorem find_set_same {fs:List (ByteArray×FileM)} {a:ByteArray} {f f':FileM} (h:(fs.find? fun p=>decide (p.1=a)).map (·.2)=some f):((setF fs a f').find? fun p=>decide (p.1=a)).map (·.2)=some f':=by
 unfold setF
 induction fs with
 | nil=>cases h
 | cons p l ih=>
  rw [List.map_cons]
  by_cases hp:p.1=a
  ·rw [if_pos hp,List.find?_cons_of_pos (by simp)]
   rfl
  ·rw [if_neg hp,List.find?_cons_of_neg (by simp [hp])]
   rw [List.find?_cons_of_neg (by simp [hp])] at h
   exact ih h
theorem RowI.append {n:Nat} {m:RowM} {st:St} {z i0 j e:Nat} (h:RowI n m st z i0 j e) (s:ByteArray) (hs0:s.size≠0) (hs:(s.size:Int)≤roomR m) (hcap:s.size≤st.cap - st.size) (hroom:z*(j+1)≤99000000) :
 RowI (n+2) (appM m s.size) (appS m st s) z i0 (if e=z*j then j+1 else j) (e+s.size):=by
 have hok:=h.rowOk
 obtain ⟨hcalm,hcp,hsz,hl0,hl1,hl2,f,hf,hfl⟩:=hok.pre
 have hw:=hcalm.writeS (s:=s) hf hfl (by rw [hcp,hsz];exact hcap) hs0
 have hwc:=hcalm.write (s:=s) hf hfl (by rw [hcp,hsz];exact hcap) hs0
 have h1:=h.size
 have h2:=h.beg
 have h3:=h.end_
 have h4:=h.next
 have h5:=h.room
 have h6:=h.z1
 have h7:=h.z2
 have h8:=h.e1
 have h9:=h.e2
 have h10:=h.ij
 have h11:=h.eb
 have hsj:z*(j+1)=z*j+z:=Nat.mul_succ z j
 have hiff:(m.end_=m.next)↔e=z*j:=by omega
 -- the last segment
 obtain ⟨q,hq1,hq2,hq3,hq4⟩:∃ q,(if e=z*j then j+1 else j)=q+1∧(lastOf m).toNat=z*q∧i0≤q∧(e≠z*j→q+1=j)∧(e=z*j→q=j):=by
  by_cases he:e=z*j
  ·refine ⟨j,by rw [if_pos he],?_,h10,fun hx=>absurd he hx,fun _=>rfl⟩
   unfold lastOf pm
   rw [if_pos (hiff.2 he)]
   simp only
   omega
  ·have hlt:i0<j:=Nat.lt_of_le_of_ne h10 fun hx=>he (by subst hx;omega)
   refine ⟨j - 1,by rw [if_neg he];omega,?_,by omega,fun _=>by omega,fun hx=>absurd hx he⟩
   unfold lastOf pm
   rw [if_neg (fun hx=>he (hiff.1 hx)),h4,h1]
   have:z*(j - 1+1)=z*(j - 1)+z:=Nat.mul_succ z (j - 1)
   rw [show j - 1+1=j by omega] at this
   omega
 obtain ⟨hq4,hq5⟩:=hq4
 have hsq:z*(q+1)=z*q+z:=Nat.mul_succ z q
 have hqj:q+1≤j+1:=by by_cases he:e=z*j;have:=hq5 he;omega;have:=hq4 he;omega
 have hqb:z*(q+1)≤z*(j+1):=Nat.mul_le_mul_left z hqj
 have hla:lastOf m=((z*q:Nat):Int):=by omega
 have hpm:(pm m).head=m.head∧(pm m).size=m.size∧(pm m).begin_=m.begin_:=by unfold pm;split<;>exact ⟨rfl,rfl,rfl⟩
 have hpn:(pm m).next=((z*(q+1):Nat):Int):=by
  have:lastOf m=(pm m).next - (pm m).size:=rfl
  rw [hpm.2.1,h1] at this
  omega
 have hflen:f.bytes.length=e - z*q:=by omega
 have hsr:s.size≤z - (e - z*q):=by
  unfold roomR at hs
  by_cases he:e=z*j
  ·rw [if_pos (hiff.2 he)] at hs
   have:=hq5 he
   subst this
   omega
  ·rw [if_neg (fun hx=>he (hiff.1 hx))] at hs
   have:=hq4 he
   rw [this] at hsq
   omega
 have hnamesP:∀ nm,nm∈(ps m st).fs.map (·.1)↔nm∈st.fs.map (·.1)∨(e=z*j∧nm=nameB m.head (z*j)):=by
  intro nm
  unfold ps
  by_cases he:e=z*j
  ·rw [if_pos (hiff.2 he),h.calm.createS (hok.fresh (hiff.2 he)),show m.next.toNat=z*j by omega]
   simp [he]
  ·rw [if_neg (fun hx=>he (hiff.1 hx))]
   simp [he]
 have hnames:∀ nm,nm∈(appS m st s).fs.map (·.1)↔nm∈st.fs.map (·.1)∨(e=z*j∧nm=nameB m.head (z*j)):=by
  intro nm
  rw [←hnamesP nm]
  unfold appS
  rw [hw]
  simp only
  rw [names_setF]
 have hfindP:∀ i,i≠q→i<q+1→(ps m st).find (nameB m.head (z*i))=st.find (nameB m.head (z*i)):=by
  intro i hi hi2
  unfold ps
  by_cases he:e=z*j
  ·rw [if_pos (hiff.2 he),show m.next.toNat=z*j by omega]
   refine find_create fun hx=>hi ?_
   have hle:z*i≤z*q:=Nat.mul_le_mul_left z (by omega)
   have:=nameB_inj m.head (by omega) (by omega) hx
   rw [hq5 he]
   exact Nat.eq_of_mul_eq_mul_left (by omega) this
  ·rw [if_neg (fun hx=>he (hiff.1 hx))]
 have hlen:∀ i,i0≤i→i<q+1→(appS m st s).len (nameB m.head (z*i))=min z (e+s.size - z*i):=by
  intro i hi1 hi2
  have hle:z*i≤z*q:=Nat.mul_le_mul_left z (by omega)
  by_cases hi:i=q
  ·subst hi
   have:(appS m st s).find (nameB m.head (z*i))=some (addF f ⟨((ps m st).turn:Int)+1,(m.end_ - lastOf m).toNat,s⟩):=by
    unfold appS
    rw [hw,hq2]
    unfold St.find
    simp only
    refine find_set_same (f:=f) ?_
    rw [hq2] at hf
    exact hf
   unfold St.len
   rw [this]
   simp only
   have hb:(addF f ⟨((ps m st).turn:Int)+1,(m.end_ - lastOf m).toNat,s⟩).bytes=f.bytes ++ s.data.toList:=by
    rw [show (m.end_ - lastOf m).toNat=f.bytes.length by omega]
    exact putB_end _ _
   rw [hb,List.length_append,size_toList]
   omega
  ·have h12:(appS m st s).find (nameB m.head (z*i))=st.find (nameB m.head (z*i)):=by
    rw [←hfindP i hi hi2]
    unfold appS
    refine find_write fun hx=>hi ?_
    rw [hq2] at hx
    have:=nameB_inj m.head (by omega) (by omega) hx
    exact Nat.eq_of_mul_eq_mul_left (by omega) this
   have hij:i<j:=by by_cases he:e=z*j;have:=hq5 he;omega;have:=hq4 he;omega
   have h13:=h.len i hi1 hij
   unfold St.len at h13 ⊢
   rw [h12,h13]
   have hle2:z*(i+1)≤z*q:=Nat.mul_le_mul_left z (by omega)
   have hsi:z*(i+1)=z*i+z:=Nat.mul_succ z i
   omega
 rw [hq1]
 refine ⟨hwc,by show (pm m).head.size≤100;rw [hpm.1];exact h.head,hpm.2.1.trans h1,h6,h7,hpm.2.2.trans h2,by show m.end_+(s.size:Int)=_;omega,hpn,by omega,by omega,by omega,by omega,by omega,fun nm=>?_,?_,fun hx=>by omega,?_⟩
 ·show (nm∈(appS m st s).fs.map (·.1)∧Lib.hasPrefix nm.data.toList (pm m).head.data.toList=true)↔∃ p∈plS (z*(q+1)) z (z*i0),nm=nameB (pm m).head p
  rw [hpm.1,hnames nm]
  have hown:=h.own nm
  constructor
  ·rintro ⟨h12|⟨h12,rfl⟩,h13⟩
   ·obtain ⟨p,hp,rfl⟩:=hown.1 ⟨h12,h13⟩
    obtain ⟨i,a1,a2,rfl⟩:=(plS_iff (by omega) i0 j p h10).1 hp
    refine ⟨z*i,(plS_iff (by omega) i0 (q+1) _ (by omega)).2 ⟨i,a1,?_,rfl⟩,rfl⟩
    by_cases he:e=z*j
    ·have:=hq5 he;omega
    ·have:=hq4 he;omega
   ·have:=hq5 h12
    exact ⟨z*j,(plS_iff (by omega) i0 (q+1) _ (by omega)).2 ⟨j,h10,by omega,rfl⟩,rfl⟩
  ·rintro ⟨p,hp,rfl⟩
   obtain ⟨i,a1,a2,rfl⟩:=(plS_iff (by omega) i0 (q+1) p (by omega)).1 hp
   refine ⟨?_,nameB_pre _ _⟩
   by_cases hij:i<j
   ·exact .inl (hown.2 ⟨z*i,(plS_iff (by omega) i0 j _ h10).2 ⟨i,a1,hij,rfl⟩,rfl⟩).1
   ·by_cases he:e=z*j
    ·have:=hq5 he
     exact .inr ⟨he,by rw [show i=j by omega]⟩
    ·have:=hq4 he
     omega
 ·show ∀ i,i0≤i→i<q+1→(appS m st s).len (nameB (pm m).head (z*i))=_
  rw [hpm.1]
  exact hlen
 ·obtain ⟨t,t1,t2,t3⟩:=h.t0
  by_cases htq:t≤q
  ·refine ⟨t,?_,t2,by omega⟩
   show min m.touched (lastOf m)=_
   have:z*t≤z*q:=Nat.mul_le_mul_left z htq
   omega
  ·refine ⟨q,?_,hq3,by omega⟩
   show min m.touched (lastOf m)=_
   have:z*q≤z*t:=Nat.mul_le_mul_left z (by omega)
   omega
theorem RowI.keep {n n':Nat} {m:RowM} {st st':St} {z i0 j e:Nat} (h:RowI n m st z i0 j e) (hc:Calm n' st') (hm:∀ nm,Lib.hasPrefix nm.data.toList m.head.data.toList=true→(nm∈st'.fs.map (·.1)↔nm∈st.fs.map (·.1)))
 (hl:∀ i,i0≤i→i<j→st'.len (nameB m.head (z*i))=st.len (nameB m.head (z*i))):RowI n' m st' z i0 j e:=
 ⟨hc,h.head,h.size,h.z1,h.z2,h.beg,h.end_,h.next,h.ij,h.room,h.eb,h.e1,h.e2,fun nm=>by
  rw [←h.own nm]
  exact ⟨fun ⟨a,b⟩=>⟨(hm nm b).1 a,b⟩,fun ⟨a,b⟩=>⟨(hm nm b).2 a,b⟩⟩,fun i a b=>(hl i a b).trans (h.len i a b),h.none,h.t0⟩
theorem len_sync1 (st:St) (t nm:ByteArray):(sync1 st t).len nm=st.len nm:=by
 by_cases ht:nm=t
 ·subst ht
  unfold sync1
  cases hf:st.find nm with
  | none=>rfl
  | some f=>
   unfold St.len
   rw [hf]
   have:({ st with fs:=setF st.fs nm (syncF f)}:St).find nm=some (syncF f):=by
    unfold St.find
    exact find_set_same (f:=f) (by unfold St.find at hf;exact hf)
   simp only [this]
   rfl
 ·unfold St.len
  rw [find_sync1 ht]
theorem names_sync1 (st:St) (t:ByteArray):(sync1 st t).fs.map (·.1)=st.fs.map (·.1):=by
 unfold sync1
 split
 ·rfl
 ·exact names_setF _ _ _
theorem syncAll_same (st:St) (ts:List ByteArray):(syncAll st ts).fs.map (·.1)=st.fs.map (·.1)∧∀ nm,(syncAll st ts).len nm=st.len nm:=by
 unfold syncAll
 induction ts generalizing st with
 | nil=>exact ⟨rfl,fun _=>rfl⟩
 | cons t ts ih=>
  obtain ⟨h1,h2⟩:=ih (sync1 st t)
  exact ⟨h1.trans (names_sync1 st t),fun nm=>(h2 nm).trans (len_sync1 st t nm)⟩
theorem RowI.found {n:Nat} {m:RowM} {st:St} {z i0 j e:Nat} (h:RowI n m st z i0 j e) (u:Nat) (hu:∃ t:Nat,u=z*t∧i0≤t):∀ t∈rowNames m u,(st.find t).isSome=true:=by
 obtain ⟨t,rfl,h1⟩:=hu
 have hz:=h.z1
 have hs:=h.size
 have hn:=h.next
 unfold rowNames
 rw [show m.next.toNat=z*j by omega,show m.size.toNat=z by omega]
 intro x hx
 by_cases h2:j<t
 ·have:z*j≤z*t:=Nat.mul_le_mul_left z (by omega)
  rw [plS_done _ _ _ (by omega)] at hx
  cases hx
 replace h2:t≤j:=by omega
 obtain ⟨p,hp,rfl⟩:=List.mem_map.1 hx
 obtain ⟨i,a1,a2,rfl⟩:=(plS_iff (by omega) t j p h2).1 hp
 obtain ⟨f,hf,_⟩:=h.file (i:=i) (by omega) a2
 rw [hf]
 rfl
theorem RowI.sync {n:Nat} {m:RowM} {st:St} {z i0 j e:Nat} (h:RowI n m st z i0 j e) (u:Nat):RowI n (syncedM m) (syncAll st (rowNames m u)) z i0 j e:=by
 obtain ⟨h1,h2⟩:=syncAll_same st (rowNames m u)
 have hk:=h.keep (h.calm.sync (rowNames m u)) (fun nm _=>by rw [h1]) (fun i _ _=>h2 _)
 exact ⟨hk.calm,hk.head,hk.size,hk.z1,hk.z2,hk.beg,hk.end_,hk.next,hk.ij,hk.room,hk.eb,hk.e1,hk.e2,hk.own,hk.len,hk.none,⟨j,hk.next,hk.ij,hk.room⟩⟩
theorem names_remove (st:St) (t nm:ByteArray):nm∈(removeS st t).fs.map (·.1)↔nm∈st.fs.map (·.1)∧nm≠t:=by
 unfold removeS dropF
 simp only
 constructor
 ·intro h
  obtain ⟨p,hp,rfl⟩:=List.mem_map.1 h
  obtain ⟨h1,h2⟩:=List.mem_filter.1 hp
  exact ⟨List.mem_map_of_mem h1,by simpa using h2⟩
 ·rintro ⟨h1,h2⟩
  obtain ⟨p,hp,rfl⟩:=List.mem_map.1 h1
  exact List.mem_map.2 ⟨p,List.mem_filter.2 ⟨hp,by simpa using h2⟩,rfl⟩
theorem names_deleteAll (ts:List ByteArray):∀ (st:St) (nm:ByteArray),nm∈(deleteAll st ts).fs.map (·.1)↔nm∈st.fs.map (·.1)∧nm∉ts:=by
 induction ts with
 | nil=>intro st nm;simp [deleteAll]
 | cons t ts ih=>
  intro st nm
  have:deleteAll st (t :: ts)=deleteAll (removeS st t) ts:=rfl
  rw [this,ih,names_remove,List.mem_cons,not_or,and_assoc]
theorem RowI.from_ {n:Nat} {m:RowM} {st:St} {z i0 j e:Nat} (h:RowI n m st z i0 j e) (a:Nat):∃ k,fromM m a=((z*k:Nat):Int)∧i0+1≤k∧a≤z*k∧(k=i0+1∨z*k<a+z):=by
 have h1:=h.size
 have h2:=h.beg
 have h6:=h.z1
 obtain ⟨c,hc⟩:∃ c,c=(a+z - 1) / z:=⟨_,rfl⟩
 have hd:=Nat.div_add_mod (a+z - 1) z
 have hm:=Nat.mod_lt (a+z - 1) (show 0<z by omega)
 rw [←hc] at hd
 have hs0:z*(i0+1)=z*i0+z:=Nat.mul_succ z i0
 have hpl:((a:Int)+m.size - 1) - ((a:Int)+m.size - 1) % m.size=((z*c:Nat):Int):=by
  rw [h1,show ((a:Int)+(z:Int) - 1)=((a+z - 1:Nat):Int) by omega,←Int.natCast_emod]
  omega
 unfold fromM
 rw [hpl]
 by_cases hk:c≤i0+1
 ·have:z*c≤z*(i0+1):=Nat.mul_le_mul_left z hk
  exact ⟨i0+1,by omega,Nat.le_refl _,by omega,.inl rfl⟩
 ·have:z*(i0+1)≤z*c:=Nat.mul_le_mul_left z (by omega)
  exact ⟨c,by omega,by omega,by omega,.inr (by omega)⟩
theorem RowI.leave {n:Nat} {m:RowM} {st:St} {z i0 j e:Nat} (h:RowI n m st z i0 j e) (k:Nat) (hk0:i0+1≤k) (hkj:k<j) (sy:Int) :
 RowI n { m with next:=((z*k:Nat):Int),end_:=((z*k:Nat):Int),synced:=sy } (deleteAll st (rowNames m (z*k))) z i0 k (z*k):=by
 have h1:=h.size
 have h4:=h.next
 have h5:=h.room
 have h6:=h.z1
 have hle:z*k≤z*j:=Nat.mul_le_mul_left z (by omega)
 have hle0:z*i0≤z*k:=Nat.mul_le_mul_left z (by omega)
 have hnm:∀ nm,nm∈rowNames m (z*k)↔∃ i,k≤i∧i<j∧nm=nameB m.head (z*i):=fun nm=>by
  unfold rowNames
  rw [show m.next.toNat=z*j by omega,show m.size.toNat=z by omega,List.mem_map]
  constructor
  ·rintro ⟨p,hp,rfl⟩
   obtain ⟨i,a1,a2,rfl⟩:=(plS_iff (by omega) k j p (by omega)).1 hp
   exact ⟨i,a1,a2,rfl⟩
  ·rintro ⟨i,a1,a2,rfl⟩
   exact ⟨z*i,(plS_iff (by omega) k j _ (by omega)).2 ⟨i,a1,a2,rfl⟩,rfl⟩
 have hne:∀ i,i<k→nameB m.head (z*i)∉rowNames m (z*k):=fun i a1 hx=>by
  obtain ⟨q,b1,b2,hx⟩:=(hnm _).1 hx
  have l1:z*i≤z*j:=Nat.mul_le_mul_left z (by omega)
  have l2:z*q≤z*j:=Nat.mul_le_mul_left z (by omega)
  have:=nameB_inj m.head (by omega) (by omega) hx
  have:=Nat.eq_of_mul_eq_mul_left (show 0<z by omega) this
  omega
 refine ⟨h.calm.delete _,h.head,h1,h6,h.z2,h.beg,rfl,rfl,by omega,by omega,hle0,Nat.le_refl _,by omega,fun nm=>?_,fun i a1 a2=>?_,fun hx=>by omega,?_⟩
 ·show (nm∈(deleteAll st (rowNames m (z*k))).fs.map (·.1)∧_)↔∃ p∈plS (z*k) z (z*i0),nm=nameB m.head p
  rw [names_deleteAll]
  constructor
  ·rintro ⟨⟨a1,a2⟩,a3⟩
   obtain ⟨p,hp,rfl⟩:=(h.own nm).1 ⟨a1,a3⟩
   obtain ⟨i,b1,b2,rfl⟩:=(plS_iff (by omega) i0 j p h.ij).1 hp
   have:i<k:=Nat.lt_of_not_le fun hx=>a2 ((hnm _).2 ⟨i,hx,b2,rfl⟩)
   exact ⟨z*i,(plS_iff (by omega) i0 k _ (by omega)).2 ⟨i,b1,this,rfl⟩,rfl⟩
  ·rintro ⟨p,hp,rfl⟩
   obtain ⟨i,b1,b2,rfl⟩:=(plS_iff (by omega) i0 k p (by omega)).1 hp
   obtain ⟨a1,a3⟩:=(h.own _).2 ⟨z*i,(plS_iff (by omega) i0 j _ h.ij).2 ⟨i,b1,by omega,rfl⟩,rfl⟩
   exact ⟨⟨a1,hne i b2⟩,a3⟩
 ·show (deleteAll st (rowNames m (z*k))).len (nameB m.head (z*i))=_
  have hf:(deleteAll st (rowNames m (z*k))).find (nameB m.head (z*i))=st.find (nameB m.head (z*i)):=find_deleteAll (hne i a2)
  have h9:=h.e2
  have h13:=h.len i a1 (by omega)
  have l1:z*(i+1)≤z*k:=Nat.mul_le_mul_left z (by omega)
  have l2:z*(i+1)=z*i+z:=Nat.mul_succ z i
  have l3:z*(k+1)≤z*j:=Nat.mul_le_mul_left z (by omega)
  have l4:z*(k+1)=z*k+z:=Nat.mul_succ z k
  unfold St.len at h13 ⊢
  rw [hf,h13]
  omega
 ·exact h.t0
theorem Calm.cutS {n:Nat} {st:St} (h:Calm n st) {nm:ByteArray} {f:FileM} {k:Int} (hf:st.find nm=some f) (h0:0≤k) (h1:k≤f.bytes.length):Go.Proofs.YtajmeimjaapagaaGreatDoor.cutS st nm k = { st with size:=st.size - (f.bytes.length - k.toNat),fs:=setF st.fs nm (cutF f k.toNat)}:=by
 unfold Go.Proofs.YtajmeimjaapagaaGreatDoor.cutS
 rw [if_neg (by rw [h.down];simp),hf]
 simp only
 rw [if_neg (by omega),if_pos h.burnE,h.burnS]
theorem Calm.cut {n:Nat} {st:St} (h:Calm n st) {nm:ByteArray} {f:FileM} {k:Int} (hf:st.find nm=some f) (h0:0≤k) (h1:k≤f.bytes.length):Calm n (Go.Proofs.YtajmeimjaapagaaGreatDoor.cutS st nm k):=by
 have hg:=h.good.cut nm k
 refine ⟨hg,?_,?_⟩
 ·rw [h.cutS hf h0 h1];exact h.lit
 ·rw [h.cutS hf h0 h1];exact h.down
theorem RowI.cut {n:Nat} {m:RowM} {st:St} {z i0 q e:Nat} (h:RowI n m st z i0 (q+1) e) (a:Nat) (ha0:z*q≤a) (ha1:a≤e) (hq:i0≤q) :
 RowI n (shrinkM m a) (cutS st (nameB m.head (z*q)) ((a:Int) - ((z*q:Nat):Int))) z i0 (q+1) a:=by
 have h1:=h.size
 have h5:=h.room
 have h6:=h.z1
 have h8:=h.e1
 have hsq:z*(q+1)=z*q+z:=Nat.mul_succ z q
 have hle0:z*i0≤z*q:=Nat.mul_le_mul_left z hq
 obtain ⟨f,hf,hfl⟩:=h.file (i:=q) hq (by omega)
 have hk0:(0:Int)≤(a:Int) - ((z*q:Nat):Int):=by omega
 have hk1:(a:Int) - ((z*q:Nat):Int)≤f.bytes.length:=by omega
 have hcs:=h.calm.cutS hf hk0 hk1
 rw [show ((a:Int) - ((z*q:Nat):Int)).toNat=a - z*q by omega] at hcs
 have hcl:=h.calm.cut hf hk0 hk1
 refine ⟨hcl,h.head,h1,h6,h.z2,h.beg,rfl,h.next,h.ij,h5,by omega,by omega,by omega,fun nm=>?_,fun i a1 a2=>?_,h.none,h.t0⟩
 ·show (nm∈(cutS st (nameB m.head (z*q)) _).fs.map (·.1)∧_)↔_
  rw [hcs]
  simp only
  rw [names_setF]
  exact h.own nm
 ·show (cutS st (nameB m.head (z*q)) _).len (nameB m.head (z*i))=_
  by_cases hi:i=q
  ·subst hi
   have hfind:(cutS st (nameB m.head (z*i)) ((a:Int) - ((z*i:Nat):Int))).find (nameB m.head (z*i))=some (cutF f (a - z*i)):=by
    rw [hcs]
    unfold St.find
    exact find_set_same (f:=f) hf
   unfold St.len
   rw [hfind]
   simp only
   have:(cutF f (a - z*i)).bytes.length=a - z*i:=by
    unfold cutF
    simp [List.length_take]
    omega
   rw [this]
   omega
  ·have hle:z*(i+1)≤z*q:=Nat.mul_le_mul_left z (by omega)
   have hsi:z*(i+1)=z*i+z:=Nat.mul_succ z i
   have hne:nameB m.head (z*i)≠nameB m.head (z*q):=fun hx=>by
    have:=nameB_inj m.head (by omega) (by omega) hx
    exact hi (Nat.eq_of_mul_eq_mul_left (by omega) this)
   have h13:=h.len i a1 a2
   unfold St.len at h13 ⊢
   rw [find_cut hne,h13]
   omega
def Others (head:ByteArray) (st st':St):Prop:=∀ nm:ByteArray,Lib.hasPrefix nm.data.toList head.data.toList=false→st'.find nm=st.find nm
theorem Others.refl (head:ByteArray) (st:St):Others head st st:=fun _ _=>rfl
theorem Others.trans {head:ByteArray} {a b c:St} (h:Others head a b) (k:Others head b c):Others head a c:=fun nm hn=>(k nm hn).trans (h nm hn)
theorem ne_nameB {head nm:ByteArray} {p:Nat} (h:Lib.hasPrefix nm.data.toList head.data.toList=false):nm≠nameB head p:=by
 rintro rfl
 rw [nameB_pre] at h
 cases h
theorem Others.app {m:RowM} {st:St} {s:ByteArray}:Others m.head st (appS m st s):=fun nm hn=>by
 unfold appS
 rw [find_write (ne_nameB hn)]
 unfold ps
 split
 ·exact find_create (ne_nameB hn)
 ·rfl
theorem not_rowNames {m:RowM} {u:Nat} {nm:ByteArray} (hn:Lib.hasPrefix nm.data.toList m.head.data.toList=false):nm∉rowNames m u:=fun hx=>by
 obtain ⟨p,_,h⟩:=List.mem_map.1 hx
 exact ne_nameB hn h.symm
theorem Others.sync {m:RowM} {st:St} {u:Nat}:Others m.head st (syncAll st (rowNames m u)):=fun nm hn=>find_syncAll (not_rowNames hn)
theorem Others.delete {m:RowM} {st:St} {u:Nat}:Others m.head st (deleteAll st (rowNames m u)):=fun nm hn=>find_deleteAll (not_rowNames hn)
theorem Others.cut {head:ByteArray} {st:St} {p:Nat} {k:Int}:Others head st (cutS st (nameB head p) k):=fun nm hn=>find_cut (ne_nameB hn)
theorem deleteAll_sub (ts:List ByteArray):∀ st:St,∀ p∈(deleteAll st ts).fs,p∈st.fs:=by
 induction ts with
 | nil=>intro st p hp;exact hp
 | cons t ts ih=>
  intro st p hp
  have:=ih (removeS st t) p hp
  exact (List.mem_filter.1 this).1
theorem names_le_of {st st':St} (h:∀ nm∈st'.fs.map (·.1),nm∈st.fs.map (·.1)) (hn:∀ p∈st.fs,p.1.size≤1048576):∀ p∈st'.fs,p.1.size≤1048576:=fun p hp=>by
 obtain ⟨q,hq,hx⟩:=List.mem_map.1 (h _ (List.mem_map_of_mem hp))
 rw [←hx]
 exact hn q hq
theorem Calm.more {n n':Nat} {st:St} (h:Calm n st) (hn:n≤n'):Calm n' st:=⟨h.good.more hn,h.lit,h.down⟩
theorem RowI.more {n n':Nat} {m:RowM} {st:St} {z i0 j e:Nat} (h:RowI n m st z i0 j e) (hn:n≤n'):RowI n' m st z i0 j e:={ h with calm:=h.calm.more hn }
theorem RowI.room_eq {n:Nat} {m:RowM} {st:St} {z i0 j e:Nat} (h:RowI n m st z i0 j e):roomR m=(z:Int) - ((e % z:Nat):Int)∧(e % z)<z:=by
 have h1:=h.size
 have h3:=h.end_
 have h4:=h.next
 have h6:=h.z1
 have h8:=h.e1
 have h9:=h.e2
 have hm:=Nat.mod_lt e (show 0<z by omega)
 refine ⟨?_,hm⟩
 unfold roomR
 by_cases he:e=z*j
 ·rw [if_pos (by omega),he,Nat.mul_mod_right]
  omega
 ·rw [if_neg (by omega)]
  have hj:j≠0:=fun hx=>he (by subst hx;omega)
  obtain ⟨q,rfl⟩:∃ q,j=q+1:=⟨j - 1,by omega⟩
  have hs:z*(q+1)=z*q+z:=Nat.mul_succ z q
  have:e % z=e - z*q:=by
   obtain ⟨r,hr⟩:∃ r,e=z*q+r:=⟨e - z*q,by omega⟩
   rw [hr,Nat.mul_add_mod,Nat.mod_eq_of_lt (by omega)]
   omega
  omega
theorem RowI.append_find {n:Nat} {m:RowM} {st:St} {z i0 j e:Nat} (h:RowI n m st z i0 j e) (s:ByteArray) (hs0:s.size≠0) (hs:(s.size:Int)≤roomR m) (hcap:s.size≤st.cap - st.size) :
 ∃ q,(if e=z*j then j+1 else j)=q+1∧i0≤q∧z*q≤e∧e+s.size≤z*q+z∧(e≠z*j→q+1=j)∧(e=z*j→q=j) ∧
  (∃ f f',(ps m st).find (nameB m.head (z*q))=some f∧f.bytes.length=e - z*q∧(e≠z*j→st.find (nameB m.head (z*q))=some f)∧(appS m st s).find (nameB m.head (z*q))=some f'∧f'.bytes=f.bytes ++ s.data.toList) ∧
  (∀ i,i<q→(appS m st s).find (nameB m.head (z*i))=st.find (nameB m.head (z*i)))∧(appS m st s).size=st.size+s.size∧(appS m st s).cap=st.cap∧(∀ nm∈(appS m st s).fs.map (·.1),nm∈st.fs.map (·.1)∨nm=nameB m.head (z*q)):=by
 have hok:=h.rowOk
 obtain ⟨hcalm,hcp,hsz,hl0,hl1,hl2,f,hf,hfl⟩:=hok.pre
 have hw:=hcalm.writeS (s:=s) hf hfl (by rw [hcp,hsz];exact hcap) hs0
 have h1:=h.size
 have h3:=h.end_
 have h4:=h.next
 have h5:=h.room
 have h6:=h.z1
 have h8:=h.e1
 have h9:=h.e2
 have h10:=h.ij
 have h11:=h.eb
 have hsj:z*(j+1)=z*j+z:=Nat.mul_succ z j
 have hiff:(m.end_=m.next)↔e=z*j:=by omega
 obtain ⟨q,hq1,hq2,hq3,hq4⟩:∃ q,(if e=z*j then j+1 else j)=q+1∧(lastOf m).toNat=z*q∧i0≤q∧(e≠z*j→q+1=j)∧(e=z*j→q=j):=by
  by_cases he:e=z*j
  ·refine ⟨j,by rw [if_pos he],?_,h10,fun hx=>absurd he hx,fun _=>rfl⟩
   unfold lastOf pm
   rw [if_pos (hiff.2 he)]
   simp only
   omega
  ·have hlt:i0<j:=Nat.lt_of_le_of_ne h10 fun hx=>he (by subst hx;omega)
   refine ⟨j - 1,by rw [if_neg he];omega,?_,by omega,fun _=>by omega,fun hx=>absurd hx he⟩
   unfold lastOf pm
   rw [if_neg (fun hx=>he (hiff.1 hx)),h4,h1]
   have:z*(j - 1+1)=z*(j - 1)+z:=Nat.mul_succ z (j - 1)
   rw [show j - 1+1=j by omega] at this
   omega
 obtain ⟨hq4,hq5⟩:=hq4
 have hsq:z*(q+1)=z*q+z:=Nat.mul_succ z q
 have hla:lastOf m=((z*q:Nat):Int):=by omega
 have hflen:f.bytes.length=e - z*q:=by omega
 have hsr:z*q≤e∧e+s.size≤z*q+z:=by
  unfold roomR at hs
  by_cases he:e=z*j
  ·rw [if_pos (hiff.2 he)] at hs
   have:=hq5 he
   subst this
   omega
  ·rw [if_neg (fun hx=>he (hiff.1 hx))] at hs
   have:=hq4 he
   rw [this] at hsq
   omega
 have hne:∀ i,i<q→nameB m.head (z*i)≠nameB m.head (z*q):=fun i hi hx=>by
  have hle:z*i≤z*q:=Nat.mul_le_mul_left z (by omega)
  have hqj:q≤j:=by by_cases he:e=z*j;have:=hq5 he;omega;have:=hq4 he;omega
  have hqb:z*q≤z*j:=Nat.mul_le_mul_left z hqj
  have:=nameB_inj m.head (by omega) (by omega) hx
  have:=Nat.eq_of_mul_eq_mul_left (show 0<z by omega) this
  omega
 rw [hq2] at hf
 refine ⟨q,hq1,hq3,hsr.1,hsr.2,hq4,hq5,⟨f,addF f ⟨((ps m st).turn:Int)+1,(m.end_ - lastOf m).toNat,s⟩,hf,hflen,fun he=>?_,?_,?_⟩,fun i hi=>?_,?_,?_,fun nm hnm=>?_⟩
 ·unfold ps at hf
  rw [if_neg (fun hx=>he (hiff.1 hx))] at hf
  exact hf
 ·show (appS m st s).find (nameB m.head (z*q))=some (addF f ⟨((ps m st).turn:Int)+1,(m.end_ - lastOf m).toNat,s⟩)
  unfold appS
  rw [hw,hq2]
  unfold St.find
  simp only
  exact find_set_same (f:=f) hf
 ·have e1:(m.end_ - lastOf m).toNat=f.bytes.length:=by omega
  show putB f.bytes (m.end_ - lastOf m).toNat s.data.toList=_
  rw [e1]
  exact putB_end _ _
 ·unfold appS
  rw [hq2,find_write (hne i hi)]
  unfold ps
  by_cases he:e=z*j
  ·rw [if_pos (hiff.2 he),show m.next.toNat=z*j by omega]
   have:=hne i hi
   rw [hq5 he] at this
   exact find_create this
  ·rw [if_neg (fun hx=>he (hiff.1 hx))]
 ·unfold appS
  rw [hw]
  show (ps m st).size+s.size=_
  rw [hsz]
 ·unfold appS
  rw [hw]
  exact hcp
 ·unfold appS at hnm
  rw [hw] at hnm
  simp only at hnm
  rw [names_setF] at hnm
  unfold ps at hnm
  by_cases he:e=z*j
  ·rw [if_pos (hiff.2 he),h.calm.createS (hok.fresh (hiff.2 he)),show m.next.toNat=z*j by omega] at hnm
   simp only [List.map_append,List.map_cons,List.map_nil,List.mem_append,List.mem_singleton] at hnm
   rw [hq5 he]
   exact hnm
  ·rw [if_neg (fun hx=>he (hiff.1 hx))] at hnm
   exact .inl hnm
theorem find_sync1_same {st:St} {t nm:ByteArray} {f:FileM} (h:st.find nm=some f):∃ f',(sync1 st t).find nm=some f'∧f'.bytes=f.bytes:=by
 by_cases ht:nm=t
 ·subst ht
  refine ⟨syncF f,?_,rfl⟩
  unfold sync1
  rw [h]
  unfold St.find
  exact find_set_same (f:=f) (by unfold St.find at h;exact h)
 ·exact ⟨f,by rw [find_sync1 ht];exact h,rfl⟩
theorem find_syncAll_same (ts:List ByteArray) {nm:ByteArray}:∀ {st:St} {f:FileM},st.find nm=some f→∃ f',(syncAll st ts).find nm=some f'∧f'.bytes=f.bytes:=by
 induction ts with
 | nil=>intro st f h;exact ⟨f,h,rfl⟩
 | cons t ts ih=>
  intro st f h
  obtain ⟨f1,h1,h2⟩:=find_sync1_same (t:=t) h
  obtain ⟨f2,h3,h4⟩:=ih h1
  exact ⟨f2,h3,h4.trans h2⟩
structure RowC (n:Nat) (m:RowM) (st:St) (z i0 j:Nat) (all:List UInt8):Prop where
 row:RowI n m st z i0 j (z*i0+all.length)
 ch:∀ i,i0≤i→i<j→∃ f,st.find (nameB m.head (z*i))=some f∧f.bytes=(all.drop (z*i - z*i0)).take z
 tight:i0+1<j→z*(j - 1)<z*i0+all.length
 nm:∀ p∈st.fs,p.1.size≤1048576
theorem RowC.more {n n':Nat} {m:RowM} {st:St} {z i0 j:Nat} {all:List UInt8} (h:RowC n m st z i0 j all) (hn:n≤n'):RowC n' m st z i0 j all:=⟨h.row.more hn,h.ch,h.tight,h.nm⟩
theorem RowC.append {n:Nat} {m:RowM} {st:St} {z i0 j:Nat} {all:List UInt8} (h:RowC n m st z i0 j all) (s:ByteArray) (hs0:s.size≠0) (hs:(s.size:Int)≤roomR m) (hcap:s.size≤st.cap - st.size) (hroom:z*(j+1)≤99000000) :
 RowC (n+2) (appM m s.size) (appS m st s) z i0 (if z*i0+all.length=z*j then j+1 else j) (all ++ s.data.toList)∧(appS m st s).size=st.size+s.size∧(appS m st s).cap=st.cap:=by
 have h6:=h.row.z1
 have h7:=h.row.z2
 have h8:=h.row.e1
 have h9:=h.row.e2
 have hrm:=h.row.room_eq
 have hsj:z*(j+1)=z*j+z:=Nat.mul_succ z j
 have hrow:=h.row.append s hs0 hs hcap hroom
 obtain ⟨q,hq1,hq3,hq2,hqs,hq4,hq5,⟨f,f',hf,hfl,hff,hf',hfb⟩,hoth,hsz',hcp',hnm'⟩:=h.row.append_find s hs0 hs hcap
 have hhd:(appM m s.size).head=m.head:=by show (pm m).head=_;unfold pm;split<;>rfl
 have hql:z*i0≤z*q:=Nat.mul_le_mul_left z hq3
 refine ⟨⟨?_,?_,fun hx=>?_,?_⟩,hsz',hcp'⟩
 ·rw [List.length_append,size_toList,←Nat.add_assoc]
  exact hrow
 ·rw [hhd,hq1]
  intro i a1 a2
  by_cases hi:i=q
  ·subst hi
   refine ⟨f',hf',?_⟩
   have hf2:f.bytes=all.drop (z*i - z*i0):=by
    by_cases he:z*i0+all.length=z*j
    ·have hq:=hq5 he
     have h0:f.bytes=[]:=List.length_eq_zero_iff.1 (by rw [hfl,hq];omega)
     rw [h0,List.drop_eq_nil_of_le (by rw [hq];omega)]
    ·have hq:=hq4 he
     obtain ⟨f2,hf2,hb2⟩:=h.ch i a1 (by omega)
     rw [hff he] at hf2
     obtain rfl:=Option.some.inj hf2
     rw [hb2,List.take_of_length_le]
     rw [List.length_drop]
     omega
   rw [hfb,hf2,List.drop_append_of_le_length (by omega),List.take_of_length_le]
   rw [List.length_append,List.length_drop,size_toList]
   omega
  ·have hiq:i<q:=by omega
   have hij:i<j:=by by_cases he:z*i0+all.length=z*j;have:=hq5 he;omega;have:=hq4 he;omega
   obtain ⟨f2,hf2,hb2⟩:=h.ch i a1 hij
   refine ⟨f2,by rw [hoth i hiq];exact hf2,?_⟩
   have l1:z*(i+1)≤z*q:=Nat.mul_le_mul_left z hiq
   have l2:z*(i+1)=z*i+z:=Nat.mul_succ z i
   have l3:z*i0≤z*i:=Nat.mul_le_mul_left z a1
   rw [hb2,List.drop_append_of_le_length (by omega),List.take_append_of_le_length]
   rw [List.length_drop]
   omega
 ·rw [hq1,List.length_append,size_toList]
  have:q+1 - 1=q:=by omega
  rw [this]
  omega
 ·intro p hp
  rcases hnm' p.1 (List.mem_map_of_mem hp) with h1|h1
  ·obtain ⟨r,hr,hx⟩:=List.mem_map.1 h1
   rw [←hx]
   exact h.nm r hr
  ·rw [h1,nameB_size]
   have:=h.row.head
   omega
theorem RowC.sync {n:Nat} {m:RowM} {st:St} {z i0 j:Nat} {all:List UInt8} (h:RowC n m st z i0 j all) (u:Nat):RowC n (syncedM m) (syncAll st (rowNames m u)) z i0 j all:=by
 refine ⟨h.row.sync u,fun i a1 a2=>?_,h.tight,names_le_of (fun nm hnm=>by rw [(syncAll_same st _).1] at hnm;exact hnm) h.nm⟩
 obtain ⟨f,hf,hb⟩:=h.ch i a1 a2
 obtain ⟨f',h1,h2⟩:=find_syncAll_same (rowNames m u) hf
 exact ⟨f',h1,h2.trans hb⟩
theorem RowC.open_ {n:Nat} {m:RowM} {st:St} {z i0 j:Nat} {all:List UInt8} (h:RowC n m st z i0 j all):RowC n (openM st m.head z) st z i0 j all∧openS st m.head z=st∧(openM st m.head z).head=m.head:=by
 obtain ⟨h1,h2,h3⟩:=h.row.open_
 exact ⟨⟨h1,fun i a1 a2=>by rw [h3];exact h.ch i a1 a2,h.tight,h.nm⟩,h2,h3⟩
theorem RowC.leave {n:Nat} {m:RowM} {st:St} {z i0 j:Nat} {all:List UInt8} (h:RowC n m st z i0 j all) (a:Nat) (ha0:z*i0≤a) (ha1:a≤z*i0+all.length) :
 ∃ j1 e1,RowC n (leaveM m a) (leaveS m st a) z i0 j1 (all.take (e1 - z*i0))∧z*i0≤e1∧e1≤z*i0+all.length∧a≤e1∧(leaveM m a).end_=(e1:Int)∧(leaveM m a).head=m.head ∧
  (a<e1→i0+1≤j1∧z*(j1 - 1)≤a∧(i0+1<j1→z*(j1 - 1)<a))∧(i0<j→i0<j1)∧(i0=j→i0=j1) ∧
  ((e1=z*i0+all.length∧(leaveM m a).synced=m.synced)∨(leaveM m a).synced=min m.synced (e1:Int)) ∧
  (∀ t∈rowNames m (fromM m a).toNat,(st.find t).isSome=true)∧Others m.head st (leaveS m st a):=by
 obtain ⟨k,hk,hk0,hka,hkz⟩:=h.row.from_ a
 have h1:=h.row.size
 have h2:=h.row.beg
 have h3:=h.row.end_
 have h4:=h.row.next
 have h5:=h.row.room
 have h6:=h.row.z1
 have h9:=h.row.e2
 have h8:=h.row.e1
 have h10:=h.row.ij
 have hs0:z*(i0+1)=z*i0+z:=Nat.mul_succ z i0
 have hkn:(fromM m a).toNat=z*k:=by omega
 have hfd:∀ t∈rowNames m (fromM m a).toNat,(st.find t).isSome=true:=h.row.found _ ⟨k,hkn,by omega⟩
 have hot:Others m.head st (leaveS m st a):=Others.delete
 by_cases hkj:k<j
 ·have hle1:z*(k+1)≤z*j:=Nat.mul_le_mul_left z (by omega)
  have hs1:z*(k+1)=z*k+z:=Nat.mul_succ z k
  have hle0:z*(i0+1)≤z*k:=Nat.mul_le_mul_left z hk0
  have hke:z*k≤z*i0+all.length:=by omega
  have hlt:fromM m a<m.next:=by omega
  have hM:leaveM m a = { m with next:=((z*k:Nat):Int),end_:=((z*k:Nat):Int),synced:=min m.synced ((z*k:Nat):Int)}:=by
   unfold leaveM
   rw [if_pos hlt,hk]
   unfold shrinkM
   have:min m.end_ ((z*k:Nat):Int)=((z*k:Nat):Int):=by omega
   rw [this]
  have hS:leaveS m st a=deleteAll st (rowNames m (z*k)):=by unfold leaveS;rw [hkn]
  have hrow:=h.row.leave k hk0 hkj (min m.synced ((z*k:Nat):Int))
  have hlen:z*i0+(all.take (z*k - z*i0)).length=z*k:=by rw [List.length_take];omega
  refine ⟨k,z*k,⟨?_,fun i a1 a2=>?_,fun hx=>?_,?_⟩,by omega,hke,hka,by rw [hM],by rw [hM],fun hx=>?_,fun _=>by omega,fun hx=>by omega,.inr (by rw [hM]),hfd,hot⟩
  ·rw [hM,hS,hlen];exact hrow
  ·obtain ⟨f,hf,hb⟩:=h.ch i a1 (by omega)
   refine ⟨f,?_,?_⟩
   ·rw [hM,hS]
    show (deleteAll st (rowNames m (z*k))).find (nameB m.head (z*i))=some f
    rw [find_deleteAll]
    ·exact hf
    ·intro hx
     obtain ⟨p,hp,hx⟩:=List.mem_map.1 hx
     rw [show m.next.toNat=z*j by omega,show m.size.toNat=z by omega] at hp
     obtain ⟨r,r1,r2,rfl⟩:=(plS_iff (by omega) k j p (by omega)).1 hp
     have l1:z*i≤z*j:=Nat.mul_le_mul_left z (by omega)
     have l2:z*r≤z*j:=Nat.mul_le_mul_left z (by omega)
     have:=nameB_inj m.head (by omega) (by omega) hx
     have:=Nat.eq_of_mul_eq_mul_left (show 0<z by omega) this
     omega
   ·have l1:z*(i+1)≤z*k:=Nat.mul_le_mul_left z (by omega)
    have l2:z*(i+1)=z*i+z:=Nat.mul_succ z i
    have l3:z*i0≤z*i:=Nat.mul_le_mul_left z a1
    rw [hb,List.drop_take,List.take_take]
    congr 1
    omega
  ·rw [hlen]
   have l2:z*(k - 1+1)=z*(k - 1)+z:=Nat.mul_succ z (k - 1)
   rw [show k - 1+1=k by omega] at l2
   omega
  ·rw [hS];exact fun p hp=>h.nm p (deleteAll_sub _ _ p hp)
  ·have l2:z*(k - 1+1)=z*(k - 1)+z:=Nat.mul_succ z (k - 1)
   rw [show k - 1+1=k by omega] at l2
   refine ⟨hk0,?_,fun hy=>?_⟩
   ·rcases hkz with hkz|hkz
    ·subst hkz
     rw [show i0+1 - 1=i0 by omega];omega
    ·omega
   ·rcases hkz with hkz|hkz<;>omega
 ·have hle:z*j≤z*k:=Nat.mul_le_mul_left z (by omega)
  have hlt:¬ fromM m a<m.next:=by omega
  have hM:leaveM m a=m:=by unfold leaveM;rw [if_neg hlt]
  have hS:leaveS m st a=st:=by
   unfold leaveS
   rw [rowNames_nil (by omega) hlt]
   rfl
  have hall:all.take (z*i0+all.length - z*i0)=all:=List.take_of_length_le (by omega)
  refine ⟨j,z*i0+all.length,?_,by omega,Nat.le_refl _,ha1,?_,by rw [hM],fun hx=>?_,fun hx=>hx,fun hx=>hx,.inl ⟨rfl,by rw [hM]⟩,hfd,hot⟩
  ·rw [hM,hS,hall];exact h
  ·rw [hM];exact h3
  ·have hij:i0<j:=Nat.lt_of_le_of_ne h10 fun hx=>by subst hx;omega
   have l2:z*(j - 1+1)=z*(j - 1)+z:=Nat.mul_succ z (j - 1)
   rw [show j - 1+1=j by omega] at l2
   refine ⟨by omega,?_,fun hy=>?_⟩
   ·rcases hkz with hkz|hkz
    ·have hj:j=i0+1:=by omega
     subst hj
     rw [show i0+1 - 1=i0 by omega];omega
    ·omega
   ·rcases hkz with hkz|hkz<;>omega
theorem RowC.cut {n:Nat} {m:RowM} {st:St} {z i0 q:Nat} {all:List UInt8} (h:RowC n m st z i0 (q+1) all) (a:Nat) (ha0:z*q≤a) (ha1:a≤z*i0+all.length) (hq:i0≤q) (ht:i0+1<q+1→z*q<a) :
 RowC n (shrinkM m a) (cutS st (nameB m.head (z*q)) ((a:Int) - ((z*q:Nat):Int))) z i0 (q+1) (all.take (a - z*i0))∧∃ f,st.find (nameB m.head (z*q))=some f∧(a:Int) - ((z*q:Nat):Int)≤f.bytes.length:=by
 have h1:=h.row.size
 have h5:=h.row.room
 have h6:=h.row.z1
 have h8:=h.row.e1
 have hsq:z*(q+1)=z*q+z:=Nat.mul_succ z q
 have hle0:z*i0≤z*q:=Nat.mul_le_mul_left z hq
 obtain ⟨f,hf,hfb⟩:=h.ch q hq (by omega)
 have hfl:f.bytes.length=z*i0+all.length - z*q:=by rw [hfb,List.length_take,List.length_drop];omega
 have hk0:(0:Int)≤(a:Int) - ((z*q:Nat):Int):=by omega
 have hk1:(a:Int) - ((z*q:Nat):Int)≤f.bytes.length:=by omega
 have hcs:=h.row.calm.cutS hf hk0 hk1
 rw [show ((a:Int) - ((z*q:Nat):Int)).toNat=a - z*q by omega] at hcs
 have hlen:z*i0+(all.take (a - z*i0)).length=a:=by rw [List.length_take];omega
 have hrow:=h.row.cut a ha0 ha1 hq
 refine ⟨⟨by rw [hlen];exact hrow,fun i a1 a2=>?_,fun hx=>by rw [hlen,show q+1 - 1=q by omega];exact ht hx,?_⟩,f,hf,hk1⟩
 ·show ∃ f',(cutS st (nameB m.head (z*q)) _).find (nameB m.head (z*i))=some f'∧_
  by_cases hi:i=q
  ·subst hi
   refine ⟨cutF f (a - z*i),?_,?_⟩
   ·rw [hcs]
    unfold St.find
    exact find_set_same (f:=f) hf
   ·show f.bytes.take (a - z*i)=_
    rw [hfb,List.take_take,List.drop_take,List.take_take]
    congr 1
    omega
  ·obtain ⟨f2,hf2,hb2⟩:=h.ch i a1 a2
   have hle:z*(i+1)≤z*q:=Nat.mul_le_mul_left z (by omega)
   have hsi:z*(i+1)=z*i+z:=Nat.mul_succ z i
   have l3:z*i0≤z*i:=Nat.mul_le_mul_left z a1
   have hne:nameB m.head (z*i)≠nameB m.head (z*q):=fun hx=>by
    have:=nameB_inj m.head (by omega) (by omega) hx
    exact hi (Nat.eq_of_mul_eq_mul_left (by omega) this)
   refine ⟨f2,by rw [find_cut hne];exact hf2,?_⟩
   rw [hb2,List.drop_take,List.take_take]
   congr 1
   omega
 ·rw [hcs]
  intro p hp
  have:p.1∈(setF st.fs (nameB m.head (z*q)) (cutF f (a - z*q))).map (·.1):=List.mem_map_of_mem hp
  rw [names_setF] at this
  obtain ⟨r,hr,hx⟩:=List.mem_map.1 this
  rw [←hx]
  exact h.nm r hr
def CTo (w0 w:World) (b:Nat) (g:Gh) (st:St) (H:ByteArray) (n z i0 j:Nat) (all:List UInt8) (sy:Int) (w':World):Prop:=
 ∃ g' m' st',RowG w0 w' b g' st' m'∧RowTo w b g g' w'∧Others H st st'∧m'.head=H∧m'.synced=sy∧RowC n m' st' z i0 j all∧st'.cap=st.cap
def CAppTo (w0 w:World) (b:Nat) (g:Gh) (st:St) (m:RowM) (n z i0 j:Nat) (all:List UInt8) (s:ByteArray) (w':World):Prop:=
 ∃ g' m' st',RowG w0 w' b g' st' m'∧RowTo w b g g' w'∧Others m.head st st'∧m'.head=m.head∧m'.synced=m.synced∧RowC (n+2) m' st' z i0 (if z*i0+all.length=z*j then j+1 else j) (all ++ s.data.toList)∧st'.size=st.size+s.size∧st'.cap=st.cap
theorem c_append {w0 w:World} {b:Nat} {g:Gh} {st:St} {m:RowM} {n z i0 j:Nat} {all:List UInt8} (hg:RowG w0 w b g st m) (h:RowC n m st z i0 j all) (hn:n≤1000000) (s:ByteArray) (hs0:s.size≠0) (hs:(s.size:Int)≤roomR m) (hcap:s.size≤st.cap - st.size) (hroom:z*(j+1)≤99000000) :
 Calls Tryz.prog 72 #[.pointer (some ⟨b,0,none⟩),.string s] w fun e w'=>e = .returned (.tuple #[.int .i64 ((z*i0+all.length:Nat):Int),.int .i64 0])∧CAppTo w0 w b g st m n z i0 j all s w':=by
 obtain ⟨hk,hsz,hcp⟩:=h.append s hs0 hs hcap hroom
 refine (append_ok w0 b g st m s n w hg h.row.rowOk (by omega) hs0 hs hcap).mono ?_
 rintro e w' ⟨rfl,g',hg',hto⟩
 refine ⟨by rw [h.row.end_],g',_,_,hg',hto,Others.app,?_,?_,hk,hsz,hcp⟩
 ·show (pm m).head=_;unfold pm;split<;>rfl
 ·show (pm m).synced=_;unfold pm;split<;>rfl
theorem c_sync {w0 w:World} {b:Nat} {g:Gh} {st:St} {m:RowM} {n z i0 j:Nat} {all:List UInt8} (hg:RowG w0 w b g st m) (h:RowC n m st z i0 j all) (hn:n≤1048576) :
 Calls Tryz.prog 108 #[.pointer (some ⟨b,0,none⟩)] w fun e w'=>e = .returned (.int .i64 0)∧CTo w0 w b g st m.head n z i0 j all ((z*i0+all.length:Nat):Int) w':=by
 obtain ⟨t,t1,t2,t3⟩:=h.row.t0
 have h1:=h.row.size
 have h4:=h.row.next
 have h5:=h.row.room
 have h6:=h.row.z1
 have h7:=h.row.z2
 refine (rsync_any w0 b g st m n w hg h.row.calm hn (by omega) (by omega) (by omega) (by omega) (by have:=h.row.head;omega) (by omega) (by omega) (h.row.found _ ⟨t,by omega,t2⟩)).mono ?_
 rintro e w' ⟨rfl,g',hg',hto⟩
 exact ⟨rfl,g',_,_,hg',hto,Others.sync,rfl,h.row.end_,h.sync _,(syncAll_keeps _ _).2.2.1⟩
theorem c_cut {w0 w:World} {b:Nat} {g:Gh} {st:St} {m:RowM} {n z i0 j:Nat} {all:List UInt8} (hg:RowG w0 w b g st m) (h:RowC n m st z i0 j all) (hn:n≤1048576) (a:Nat) (ha0:z*i0≤a) (ha1:a≤z*i0+all.length) (hsy:m.synced≤m.end_) :
 Calls Tryz.prog 65 #[.pointer (some ⟨b,0,none⟩),.int .i64 (a:Int)] w fun e w'=>e = .returned (.int .i64 0)∧∃ j',(i0<j→i0<j')∧(i0=j→i0=j')∧CTo w0 w b g st m.head n z i0 j' (all.take (a - z*i0)) (min m.synced (a:Int)) w':=by
 have h1:=h.row.size
 have h2:=h.row.beg
 have h3:=h.row.end_
 have h4:=h.row.next
 have h5:=h.row.room
 have h6:=h.row.z1
 have h7:=h.row.z2
 have h8:=h.row.e1
 have h10:=h.row.ij
 have hle0:z*i0≤z*j:=Nat.mul_le_mul_left z h10
 have hh:=h.row.head
 obtain ⟨j1,e1,hk1,he0,he1,hae,hend,hhd,hin,hj1,hj2,hsyn,hfd,hot⟩:=h.leave a ha0 ha1
 have hL:∀ W,RowG w0 W b g st m→Calls Tryz.prog 104 #[.pointer (some ⟨b,0,none⟩),.int .i64 (a:Int)] W fun e w'=>e = .returned (.int .i64 0)∧∃ g',RowG w0 w' b g' (leaveS m st a) (leaveM m a)∧RowTo W b g g' w':=fun W hW=>
  leave_any w0 b g st m a n W hW h.row.calm hn (by omega) (by omega) (by omega) (by omega) (by omega) (by omega) (by omega) (by omega) hfd
 by_cases hlt:a<e1
 ·obtain ⟨hj3,hz1,hz2⟩:=hin hlt
  obtain ⟨q,rfl⟩:∃ q,j1=q+1:=⟨j1 - 1,by omega⟩
  rw [show q+1 - 1=q by omega] at hz1 hz2
  have hl1:(all.take (e1 - z*i0)).length=e1 - z*i0:=by rw [List.length_take];omega
  obtain ⟨hk2,f,hf,hfl⟩:=hk1.cut a hz1 (by rw [hl1];omega) (by omega) hz2
  have hsq:z*(q+1)=z*q+z:=Nat.mul_succ z q
  have g1:=hk1.row.size
  have g4:=hk1.row.next
  have g5:=hk1.row.room
  have hlq:(leaveM m a).next - (leaveM m a).size=((z*q:Nat):Int):=by omega
  have hlqn:((leaveM m a).next - (leaveM m a).size).toNat=z*q:=by omega
  have hc:=cut_mid w0 b g st (leaveS m st a) m (leaveM m a) a n f w hg (by omega) (by omega) (by omega) hL (by omega) hk1.row.calm hn (by omega) (by omega) (by rw [hhd];omega) (by omega) (by omega) (by omega) (by rw [hlqn];exact hf) (by rw [hlq];exact hfl)
  refine hc.mono ?_
  rintro e w' ⟨rfl,g',hg',hto⟩
  rw [hlqn,hlq] at hg'
  have htk:(all.take (e1 - z*i0)).take (a - z*i0)=all.take (a - z*i0):=by rw [List.take_take];congr 1;omega
  rw [htk] at hk2
  refine ⟨rfl,q+1,hj1,hj2,g',_,_,hg',hto,hot.trans ?_,hhd,?_,hk2,?_⟩
  ·rw [hhd];exact Others.cut
  ·show min (leaveM m a).synced (a:Int)=_
   rcases hsyn with ⟨_,hx⟩|hx
   ·rw [hx]
   ·rw [hx];omega
  ·have hcp:(leaveS m st a).cap=st.cap:=(deleteAll_keeps _ _).2.2
   have hbc:∀ s:St,(burnS s).cap=s.cap:=fun s=>by unfold burnS;repeat' (first|rfl|split)
   unfold cutS
   repeat' (first|exact hcp|exact (hbc _).trans hcp|split)
 ·have hae2:a=e1:=by omega
  subst hae2
  have hc:=cut_end w0 b g st (leaveS m st a) m (leaveM m a) a w hg (by omega) (by omega) hL (by omega)
  refine hc.mono ?_
  rintro e w' ⟨rfl,g',hg',hto⟩
  refine ⟨rfl,j1,hj1,hj2,g',_,_,hg',hto,hot,hhd,?_,hk1,(deleteAll_keeps _ _).2.2⟩
  rcases hsyn with ⟨hx,hy⟩|hx
  ·rw [hy];omega
  ·rw [hx]
def COpen (w0 w:World) (g:Gh) (st:St) (H:ByteArray) (n z i0 j:Nat) (all:List UInt8) (e:Ending) (w':World):Prop:=
 ∃ b,e = .returned (.tuple #[.pointer (some ⟨b,0,none⟩),.int .i64 0])∧w.heap.size≤b∧∃ g' m',RowG w0 w' b g' st m'∧Gh.To w g g' w'∧m'.head=H∧m'.synced=((z*i0:Nat):Int)∧RowC n m' st z i0 j all
theorem c_open {w0 w:World} {d:Nat} {g:Gh} {st:St} {m:RowM} {n z i0 j:Nat} {all:List UInt8} (hd:DiskG w0 w d g st) (ht:Tab10 w0) (h:RowC n m st z i0 j all) (hn:n≤1048576) :
 Calls Tryz.prog 62 #[.pointer (some ⟨d,0,none⟩),.string m.head,.int .i64 (z:Int)] w (COpen w0 w g st m.head n z i0 j all):=by
 obtain ⟨h1,h2,h3⟩:=h.open_
 have h6:=h.row.z1
 have h7:=h.row.z2
 have hc:=open_calm w0 g st m.head z n w hd.disk hd.chg hd.low ht h.row.calm hn h.nm (by omega) (by omega)
 rw [hd.d,h2] at hc
 refine hc.mono ?_
 rintro e w' ⟨b,rfl,hb,g',hg',hto⟩
 refine ⟨b,rfl,hb,g',_,hg',hto,h3,?_,h1⟩
 show (openX st m.head z).1.begin_=_
 exact h1.row.beg
theorem c_read_in {w0 w:World} {b:Nat} {g:Gh} {st:St} {m:RowM} {n z i0 j:Nat} {all:List UInt8} (k1:RowG w0 w b g st m) (k6:RowC n m st z i0 j all) (a k:Nat) (hk:0<k) (h1:z*i0≤a) (h2:a+k≤z*i0+all.length) (h3:k≤z - a % z) :
 Calls Tryz.prog 51 #[.pointer (some ⟨b,0,none⟩),.int .i64 a,.int .i64 k] w fun e w'=>e = .returned (.tuple #[.string ⟨((all.drop (a - z*i0)).take k).toArray⟩,.int .i64 0])∧Below w.heap.size w w':=by
 have a1:=k6.row.end_
 have a2:=k6.row.beg
 have a3:=k6.row.size
 have a4:=k6.row.z1
 have a5:=k6.row.z2
 have a6:=k6.row.e1
 have a7:=k6.row.room
 have hdm:=Nat.div_add_mod a z
 have hml:=Nat.mod_lt a (show 0<z by omega)
 obtain ⟨i,hi⟩:∃ i,i=a / z:=⟨_,rfl⟩
 rw [←hi] at hdm
 have hi0:i0≤i:=by rw [hi];exact (Nat.le_div_iff_mul_le (by omega)).2 (by rw [Nat.mul_comm];exact h1)
 have hij:i<j:=by rw [hi];exact (Nat.div_lt_iff_lt_mul (by omega)).2 (by rw [Nat.mul_comm];omega)
 have hzi:z*i0≤z*i:=Nat.mul_le_mul_left z hi0
 obtain ⟨f,hf,hfb⟩:=k6.ch i hi0 hij
 have hfl:f.bytes.length=min z (all.length - (z*i - z*i0)):=by rw [hfb,List.length_take,List.length_drop]
 have hmod:(a:Int) % (z:Int)=((a % z:Nat):Int):=(Int.natCast_emod a z).symm
 have hleft:(k:Int)≤leftR m a:=by
  unfold leftR
  rw [a1,a2,a3,hmod]
  split<;>omega
 have hc:=rread_ok w0 b g st m a k (z*i) f w k1 k6.row.calm.down (by omega) (by omega) (by omega) (by omega) (by have:=k6.row.head;omega) hk hleft (by rw [a3,hmod];omega) hf (by omega) (by omega)
 have hb:((f.bytes.drop (a - z*i)).take k)=(all.drop (a - z*i0)).take k:=by
  rw [hfb,List.drop_take,List.take_take,List.drop_drop,show min k (z - (a - z*i))=k from by omega,show z*i - z*i0+(a - z*i)=a - z*i0 from by omega]
 rw [hb] at hc
 exact hc
end Go.Proofs.YtajmeimjaapagaaGreatDoor
