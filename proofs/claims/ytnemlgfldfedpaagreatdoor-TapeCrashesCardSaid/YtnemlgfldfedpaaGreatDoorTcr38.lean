/- A part. -/
import Derived.Sort.KeysCollected
import Derived.Test.YtnemlgfldfedpaaGreatDoorTcr37
set_option linter.unusedVariables false
set_option linter.unusedSimpArgs false
namespace Go.Proofs.YtnemlgfldfedpaaGreatDoor
open Go.RowKit Go.Deep
attribute [local go_sem] fr_opt
theorem cell_set_out {w:World} {p q:Addr} (h:q.block≠p.block) (v:Value):(w.setCell p v).cell? q=w.cell? q:=World.cell?_of_block (Below.heap_setCell _ _ _ _ h)
theorem cell_set_in {w:World} {p:Addr} {u:Value} (h:w.cell? p=some u) (v:Value):(w.setCell p v).cell? p=some v:=World.cell?_setCell_same _ _ _ h
def takeR (m:RowM) (first:Bool) (a l:Nat):RowM×Bool×Bool:=
 if (a:Int) % m.size≠0∨m.size<l then (m,first,false)
 else if first=true then ({ m with begin_:=a,end_:=a+l,next:=a+m.size },false,true)
 else if (a:Int)≠m.end_ then (m,false,false)
 else ({ m with end_:=a+l,next:=a+m.size },false,true)
def TakeTo (b d P F:Nat) (w:World) (r:RowM×Bool×Bool) (e:Ending) (w':World):Prop:=
 e = .returned (.bool r.2.2)∧RowAt w' b d r.1∧w'.cell? ⟨F,0,none⟩=some (.bool r.2.1)∧w'.frozen? ⟨F,0,none⟩=false∧Chg (fun k=>k=b∨k=F) w w'
set_option maxHeartbeats 1000000 in
set_option maxRecDepth 100000 in
theorem take_any (b d P F:Nat) (m:RowM) (first:Bool) (a l:Nat) (w:World) (hr:RowAt w b d m) (hp:w.cell? ⟨P,0,none⟩=some (.pointer (some ⟨b,0,none⟩))) (hF:w.cell? ⟨F,0,none⟩=some (.bool first)) (hz:w.frozen? ⟨F,0,none⟩=false)
 (h1:P≠b) (h2:F≠b) (h3:P≠F) (ha:a≤99999999) (hl:l≤1099511627776) (hs1:16≤m.size) (hs2:m.size≤4096) :
 Calls Tryz.prog 121 #[.int .i64 a,.int .i64 l,.pointer (some ⟨P,0,none⟩),.pointer (some ⟨F,0,none⟩)] w (TakeTo b d P F w (takeR m first a l)):=by
 obtain ⟨c0,c1,c2,c3,c4,c5,c6,c7,z⟩:=hr.cell
 have z3:=z 3
 have z4:=z 4
 have z5:=z 5
 have HR:=Lib.hid hr
 clear z hr
 obtain ⟨head,size,begin_,end_,next,synced,touched⟩:=m
 simp only at *
 have hne:¬ size=0:=by omega
 have hneb:(size == 0)=false:=by simpa using hne
 unfold takeR
 simp only
 have hw1:IntKind.i64.wrap ((a:Int)+l)=a+l:=IntWalk.i64_in _ (by omega)
 have hw2:IntKind.i64.wrap ((a:Int)+size)=a+size:=IntWalk.i64_in _ (by omega)
 by_cases ht:(a:Int) % size=0
 ·by_cases hl2:size<(l:Int)
  ·rw [if_pos (.inr hl2)]
   have hb:((a:Int) % size != 0)=false:=by simp [ht]
   clear ht
   go_enter Tryz.func121,Tryz.ntmps121
   go_wp2_with fail
   go_ret
   exact ⟨rfl,HR.out,hF,hz,Chg.refl _ _⟩
  ·rw [if_neg (fun h=>h.elim (fun h=>h ht) hl2)]
   have hb:((a:Int) % size != 0)=false:=by simp [ht]
   clear ht
   cases first with
   | true=>
    rw [if_pos rfl]
    go_enter Tryz.func121,Tryz.ntmps121
    go_wp2_with fail
    go_region
    go_wp2_with fail
    go_ret
    have r1:=HR.out.set 3 (.int .i64 a) ⟨head,size,a,end_,next,synced,touched⟩ rfl
    have r2:=r1.chg (Chg.setCell (S:=fun k=>k=F) (Chg.refl _ _) (p:=⟨F,0,none⟩) (fun _=>rfl) (.bool false)) (fun hx=>h2 hx.symm)
    have r3:=r2.set 4 (.int .i64 (a+l)) ⟨head,size,a,a+l,next,synced,touched⟩ rfl
    have r4:=r3.set 5 (.int .i64 (a+size)) ⟨head,size,a,a+l,a+size,synced,touched⟩ rfl
    refine ⟨rfl,r4,?_,?_,?_⟩
    ·refine (cell_set_out h2 _).trans ((cell_set_out h2 _).trans ?_)
     have hF':(w.setCell ⟨b,3,none⟩ (.int .i64 a)).cell? ⟨F,0,none⟩=some (.bool true):=(cell_set_out h2 _).trans hF
     exact cell_set_in hF' _
    ·simp [hz]
    ·exact (Chg.setCell (Chg.setCell (Chg.setCell (Chg.setCell (Chg.refl _ _) (fun _=>.inl rfl) _) (fun _=>.inr rfl) _) (fun _=>.inl rfl) _) (fun _=>.inl rfl) _).drew
   | false=>
    rw [if_neg (by simp)]
    by_cases he:(a:Int)=end_
    ·rw [if_neg (fun h=>h he)]
     have hb2:((a:Int) != end_)=false:=by simp [he]
     have HE:=Lib.hid he
     clear he
     go_enter Tryz.func121,Tryz.ntmps121
     go_wp2_with fail
     go_region
     go_wp2_with fail
     go_ret
     have r3:=HR.out.set 4 (.int .i64 (a+l)) ⟨head,size,begin_,a+l,next,synced,touched⟩ rfl
     have r4:=r3.set 5 (.int .i64 (a+size)) ⟨head,size,begin_,a+l,a+size,synced,touched⟩ rfl
     refine ⟨rfl,r4,?_,?_,?_⟩
     ·exact (cell_set_out h2 _).trans ((cell_set_out h2 _).trans hF)
     ·simp [hz]
     ·exact (Chg.setCell (Chg.setCell (Chg.refl _ _) (fun _=>.inl rfl) _) (fun _=>.inl rfl) _).drew
    ·rw [if_pos he]
     have hb2:((a:Int) != end_)=true:=by simp [he]
     have HE:=Lib.hid he
     clear he
     go_enter Tryz.func121,Tryz.ntmps121
     go_wp2_with fail
     go_ret
     exact ⟨rfl,HR.out,hF,hz,Chg.refl _ _⟩
 ·rw [if_pos (.inl ht)]
  have hb:((a:Int) % size != 0)=true:=by simp [ht]
  clear ht
  go_enter Tryz.func121,Tryz.ntmps121
  go_wp2_with fail
  go_ret
  exact ⟨rfl,HR.out,hF,hz,Chg.refl _ _⟩
end Go.Proofs.YtnemlgfldfedpaaGreatDoor
namespace Go.Proofs.YtnemlgfldfedpaaGreatDoor
open Go.RowKit Go.Deep
theorem place_name (head:ByteArray) (u:Nat) (hu:u≤99999999):placeB head (nameB head u)=some u:=by
 have h1:Lib.hasPrefix (nameB head u).data.toList head.data.toList=true:=by
  rw [nameB_toList]
  simp [Lib.hasPrefix]
 have h2:Lib.trimPrefix (nameB head u).data.toList head.data.toList=dec8 u:=by
  unfold Lib.trimPrefix
  rw [if_pos h1,nameB_toList]
  simp
 unfold placeB
 rw [if_pos h1,h2]
 simp only
 rw [if_pos ⟨dec8_length u,fun b hb=>dec8_dig u b hb⟩,val8_dec8 u (by omega)]
theorem name_place {head s:ByteArray} {v:Nat} (h:placeB head s=some v):nameB head v=s∧v≤99999999:=by
 unfold placeB at h
 split at h
 ·rename_i hp
  simp only at h
  split at h
  ·rename_i hd
   have hv:=dec8_val8 hd.1 (fun b hb=>hd.2 b hb)
   obtain rfl:=Option.some.inj h
   refine ⟨?_,by omega⟩
   apply ByteArray.ext
   apply Array.toList_inj.1
   rw [nameB_toList,hv.1]
   unfold Lib.trimPrefix
   rw [if_pos hp]
   unfold Lib.hasPrefix at hp
   have:=List.isPrefixOf_iff_prefix.1 hp
   exact List.prefix_iff_eq_append.1 this
  ·cases h
 ·cases h
attribute [local go_sem] fr_opt
def namesS (head:ByteArray) (st:St):List ByteArray:=(((st.fs.filter fun p=>Lib.hasPrefix p.1.data.toList head.data.toList).map fun p=>p.1.data.toList).mergeSort fun x y=>decide (x≤y)).map fun l=>⟨l.toArray⟩
theorem namesS_length (head:ByteArray) (st:St):(namesS head st).length≤st.fs.length:=by
 unfold namesS
 rw [List.length_map,List.length_mergeSort,List.length_map]
 exact List.length_filter_le _ _
theorem namesS_mem {head:ByteArray} {st:St} {nm:ByteArray} (h:nm∈namesS head st):∃ p∈st.fs,p.1=nm:=by
 unfold namesS at h
 obtain ⟨l,hl,rfl⟩:=List.mem_map.1 h
 rw [List.mem_mergeSort] at hl
 obtain ⟨p,hp,rfl⟩:=List.mem_map.1 hl
 exact ⟨p,(List.mem_filter.1 hp).1,by rw [Array.toArray_toList]⟩
theorem list_strs (g:Gh) (st:St) (head:ByteArray) (w:World) (h:DiskAt w g st) (hn:st.fs.length≤1099511627776) :
 Calls Tryz.prog 85 #[.pointer (some ⟨g.d,0,none⟩),.string head] w fun e w'=>∃ v,e = .returned v∧Strs w' w.heap.size v (namesS head st)∧Below w.heap.size w w':=by
 refine (list_any g st head w h hn).mono ?_
 rintro e w' ⟨v,vis,rfl,hp,ho,hb⟩
 refine ⟨v,rfl,?_,hb⟩
 have h2:(begins head vis).mergeSort (fun x y=>decide (x≤y))=((st.fs.filter fun p=>Lib.hasPrefix p.1.data.toList head.data.toList).map fun p=>p.1.data.toList).mergeSort fun x y=>decide (x≤y):=by
  refine mergeSort_of_perm ?_
  unfold begins
  rw [←h.fs,List.filter_map,List.map_map]
  exact (hp.filter _).map _
 have hl:(begins head vis).length=(namesS head st).length:=by
  unfold namesS
  rw [List.length_map,←h2,List.length_mergeSort]
 rw [h2,hl] at ho
 have he:(((st.fs.filter fun p=>Lib.hasPrefix p.1.data.toList head.data.toList).map fun p=>p.1.data.toList).mergeSort fun x y=>decide (x≤y)).map encStr=(namesS head st).map Value.string:=by
  unfold namesS
  rw [List.map_map]
  rfl
 rw [he] at ho
 rcases ho.2 with ⟨e1,h0⟩|⟨g',cap,cur,e1,hbs,hg,h3,h4,h5,h6⟩
 ·exact ⟨none,0,by rw [e1,h0],.inl (List.length_eq_zero_iff.1 h0)⟩
 ·refine ⟨_,_,e1,.inr ⟨g',0,rfl,hbs,fun i hi=>?_⟩⟩
  rw [Nat.mul_one] at h6
  have h7:(cur.toList.take (namesS head st).length)[i]? = ((namesS head st).map Value.string)[i]?:=by rw [h6]
  rw [List.getElem?_take,if_pos hi,Array.getElem?_toList,List.getElem?_map,List.getElem?_eq_getElem hi] at h7
  simp [World.cell?,hg,h7,List.getD_eq_getElem?_getD,List.getElem?_eq_getElem hi]
def gathF (st:St) (x:RowM×Bool×List ByteArray) (nm:ByteArray):RowM×Bool×List ByteArray:=
 match placeB x.1.head nm with
 | none=>x
 | some a=>((takeR x.1 x.2.1 a (st.len nm)).1,(takeR x.1 x.2.1 a (st.len nm)).2.1,if (takeR x.1 x.2.1 a (st.len nm)).2.2=true then x.2.2 else x.2.2 ++ [nm])
def gathS (st:St) (m:RowM) (l:List ByteArray):RowM×Bool×List ByteArray:=l.foldl (gathF st) (m,true,[])
theorem gathS_snoc (st:St) (m:RowM) (l:List ByteArray) (nm:ByteArray):gathS st m (l ++ [nm])=gathF st (gathS st m l) nm:=by simp [gathS]
theorem takeR_same (m:RowM) (f:Bool) (a l:Nat):(takeR m f a l).1.head=m.head∧(takeR m f a l).1.size=m.size∧(takeR m f a l).1.synced=m.synced∧(takeR m f a l).1.touched=m.touched:=by
 unfold takeR
 split
 ·exact ⟨rfl,rfl,rfl,rfl⟩
 ·split
  ·exact ⟨rfl,rfl,rfl,rfl⟩
  ·split<;>exact ⟨rfl,rfl,rfl,rfl⟩
theorem gathF_same (st:St) (x:RowM×Bool×List ByteArray) (nm:ByteArray):(gathF st x nm).1.head=x.1.head∧(gathF st x nm).1.size=x.1.size∧(gathF st x nm).2.2.length≤x.2.2.length+1∧∀ t∈(gathF st x nm).2.2,t∈x.2.2∨t=nm:=by
 unfold gathF
 split
 ·exact ⟨rfl,rfl,by omega,fun t h=>.inl h⟩
 ·rename_i a _
  have:=takeR_same x.1 x.2.1 a (st.len nm)
  refine ⟨this.1,this.2.1,?_,?_⟩
  ·show (if _=true then x.2.2 else x.2.2 ++ [nm]).length≤_
   split
   ·omega
   ·simp
  ·show ∀ t∈(if _=true then x.2.2 else x.2.2 ++ [nm]),_
   split
   ·exact fun t h=>.inl h
   ·intro t h
    rcases List.mem_append.1 h with h|h
    ·exact .inl h
    ·exact .inr (by simpa using h)
theorem gathL_same (st:St):∀ (l:List ByteArray) (x:RowM×Bool×List ByteArray),(l.foldl (gathF st) x).1.head=x.1.head∧(l.foldl (gathF st) x).1.size=x.1.size∧(l.foldl (gathF st) x).2.2.length≤x.2.2.length+l.length∧∀ t∈(l.foldl (gathF st) x).2.2,t∈x.2.2∨t∈l
 | [],x=>⟨rfl,rfl,Nat.le_refl _,fun t h=>.inl h⟩
 | nm :: l,x=>by
  rw [List.foldl_cons,List.length_cons]
  have h1:=gathF_same st x nm
  have h2:=gathL_same st l (gathF st x nm)
  refine ⟨h2.1.trans h1.1,h2.2.1.trans h1.2.1,by have:=h2.2.2.1;have:=h1.2.2.1;omega,fun t ht=>?_⟩
  rcases h2.2.2.2 t ht with h|h
  ·rcases h1.2.2.2 t h with h|h
   ·exact .inl h
   ·exact .inr (h▸List.mem_cons_self ..)
  ·exact .inr (List.mem_cons_of_mem _ h)
theorem gathS_same (st:St) (m:RowM) (l:List ByteArray):(gathS st m l).1.head=m.head∧(gathS st m l).1.size=m.size∧(gathS st m l).2.2.length≤l.length∧∀ t∈(gathS st m l).2.2,t∈l:=by
 have:=gathL_same st l (m,true,[])
 refine ⟨this.1,this.2.1,by have:=this.2.2.1;rw [List.length_nil,Nat.zero_add] at this;exact this,fun t ht=>?_⟩
 rcases this.2.2.2 t ht with h|h
 ·cases h
 ·exact h
theorem take_one (ts:List ByteArray) {k:Nat} (hk:k<ts.length):ts.take (k+1)=ts.take k ++ [ts.getD k ⟨#[]⟩]:=by
 rw [List.take_add_one,List.getD_eq_getElem?_getD,List.getElem?_eq_getElem hk]
 rfl
def GathTo (b d:Nat) (w:World) (x:RowM×Bool×List ByteArray) (e:Ending) (w':World):Prop:=
 ∃ v,e = .returned v∧RowAt w' b d x.1∧Strs w' w.heap.size v x.2.2∧Chg (fun k=>k=b) w w'
structure GathI (w5:World) (b d F:Nat) (x:RowM×Bool×List ByteArray) (v:Value) (wr:World):Prop where
 row:RowAt wr b d x.1
 fst:wr.cell? ⟨F,0,none⟩=some (.bool x.2.1)
 free:wr.frozen? ⟨F,0,none⟩=false
 chg:Chg (fun j=>j=b∨j=F) w5 wr
 own:wr.ownsRow w5.heap.size 9 1 v x.2.2.length (x.2.2.map Value.string)
theorem frozen_chg {S:Nat→Prop} {w w':World} {p:Addr} {u:Value} (h:w.frozen? p=false) (hc:Chg S w w') (hu:w.cell? p=some u) (hn:¬ S p.block):w'.frozen? p=false:=by
 unfold World.frozen? at h ⊢
 rw [hc.block p.block (World.block_lt_of_cell? _ _ hu) hn]
 exact h
theorem GathI.new {w5:World} {b d F:Nat} {x:RowM×Bool×List ByteArray} {v:Value} {wr w':World} (h:GathI w5 b d F x v wr) (hc:Chg (fun _=>False) wr w'):GathI w5 b d F x v w':=
 ⟨h.row.chg hc (fun x=>x),hc.cell h.fst (fun x=>x),frozen_chg h.free hc h.fst (fun x=>x),h.chg.trans hc (fun _ _ x=>x.elim),hc.row h.own (fun _ _ x=>x)⟩
theorem strs_of_own {w:World} {base:Nat} {v:Value} {ts:List ByteArray} (h:w.ownsRow base 9 1 v ts.length (ts.map Value.string)):Strs w base v ts:=by
 rcases h.2 with ⟨e1,h0⟩|⟨g',cap,cur,e1,hbs,hg,h3,h4,h5,h6⟩
 ·exact ⟨none,0,by rw [e1,h0],.inl (List.length_eq_zero_iff.1 h0)⟩
 ·refine ⟨_,_,e1,.inr ⟨g',0,rfl,hbs,fun i hi=>?_⟩⟩
  rw [Nat.mul_one] at h6
  have h7:(cur.toList.take ts.length)[i]? = (ts.map Value.string)[i]?:=by rw [h6]
  rw [List.getElem?_take,if_pos hi,Array.getElem?_toList,List.getElem?_map,List.getElem?_eq_getElem hi] at h7
  simp [World.cell?,hg,h7,List.getD_eq_getElem?_getD,List.getElem?_eq_getElem hi]
theorem strs_up {w:World} {b b':Nat} {v:Value} {ts:List ByteArray} (h:Strs w b v ts) (hb:b'≤b):Strs w b' v ts:=by
 obtain ⟨a,cap,h1,h2⟩:=h
 refine ⟨a,cap,h1,?_⟩
 rcases h2 with h2|⟨k,o,h3,h4,h5⟩
 ·exact .inl h2
 ·exact .inr ⟨k,o,h3,Nat.le_trans hb h4,h5⟩
set_option maxHeartbeats 4000000 in
set_option maxRecDepth 100000 in
theorem gather_any (b:Nat) (g:Gh) (st:St) (m:RowM) (w:World) (hr:RowAt w b g.d m) (hd:DiskAt w g st) (hb:b∉g.fp) (hl:st.fs.length≤1048576) (hnm:∀ p∈st.fs,p.1.size≤1048576) (hlen:∀ nm,st.len nm≤1099511627776)
 (hs1:16≤m.size) (hs2:m.size≤4096) :
 Calls Tryz.prog 48 #[.pointer (some ⟨b,0,none⟩)] w (GathTo b g.d w (gathS st m (namesS m.head st))):=by
 have hL:∀ W,Chg (fun _=>False) w W→Calls Tryz.prog 85 #[.pointer (some ⟨g.d,0,none⟩),.string m.head] W fun e w'=>∃ v,e = .returned v∧Strs w' W.heap.size v (namesS m.head st)∧Below W.heap.size W w':=fun W hc=>list_strs g st m.head W (hd.new hc) (by omega)
 obtain ⟨c0,c1,c2,c3,c4,c5,c6,c7,hz⟩:=hr.cell
 obtain ⟨W1,hW1⟩:∃ W,W=(w.alloc (.cells #[.pointer (some ⟨b,0,none⟩)] 63)).alloc (.cells #[.bool true] 4):=⟨_,rfl⟩
 have hb1:Below w.heap.size w W1:=by rw [hW1];exact ((Below.refl _ _).alloc (Nat.le_refl _) _).alloc (by simp) _
 obtain ⟨P,hP⟩:∃ P,P=w.heap.size:=⟨_,rfl⟩
 have hbP:b<P:=by rw [hP];exact hr.lt
 have hsz:W1.heap.size=P+2:=by rw [hW1,hP];simp
 have kP:W1.cell? ⟨P,0,none⟩=some (.pointer (some ⟨b,0,none⟩)):=by rw [hW1,hP];simp
 have kF:W1.cell? ⟨P+1,0,none⟩=some (.bool true):=by rw [hW1,hP];simp
 have hFh:W1.heap[P+1]? = some (.cells #[.bool true] 4 (0,0)):=by
  have:=heap_alloc_new (w.alloc (.cells #[.pointer (some ⟨b,0,none⟩)] 63)) (.cells #[.bool true] 4)
  rw [hW1,hP]
  simpa using this
 have zF:W1.frozen? ⟨P+1,0,none⟩=false:=by simp [World.frozen?,hFh]
 have hc1:Chg (fun _=>False) w W1:=Chg.of_below hb1
 have k0:=hc1.cell c0 (fun x=>x)
 have k1:=hc1.cell c1 (fun x=>x)
 have hr1:=hr.chg hc1 (fun x=>x)
 have hd1:=hd.new hc1
 have hfp:∀ k∈g.fp,k<P:=fun k hk=>by rw [hP];exact hd.lt k hk
 obtain ⟨L,hLL⟩:∃ L,L=namesS m.head st:=⟨_,rfl⟩
 have hLm:∀ t∈L,t.size≤1048576:=fun t ht=>by
  obtain ⟨p,hp,rfl⟩:=namesS_mem (hLL▸ht)
  exact hnm p hp
 have hLn:L.length≤1048576:=by rw [hLL];exact Nat.le_trans (namesS_length _ _) hl
 rw [←hLL] at hL ⊢
 obtain ⟨n,hn⟩:∃ n,n=L.length:=⟨_,rfl⟩
 have HN:=Lib.hid hn
 rw [←hn] at hLn
 have HL:=Lib.hid hL
 have HW1:=Lib.hid hW1
 have HB1:=Lib.hid hb1
 have HKP:=Lib.hid kP
 have HKF:=Lib.hid (And.intro kF zF)
 have HR1:=Lib.hid hr1
 have HD1:=Lib.hid hd1
 have HFP:=Lib.hid hfp
 have HLM:=Lib.hid hLm
 have HSZ:=Lib.hid hsz
 have HP:=Lib.hid hP
 have HB:=Lib.hid hb
 have HLEN:=Lib.hid hlen
 obtain ⟨i0,hi,hz0,hz1,hz2⟩:=info_parts info_str
 clear hL hd hr hz c0 c1 c2 c3 c4 c5 c6 c7 hb1 hc1 kP kF zF hFh hr1 hd1 hfp hLm hsz hP hb hlen hLL hn hl hnm
 go_enter Tryz.func48,Tryz.ntmps48
 go_wp2_with (go_at_call 84;refine (taking_any b _).mono ?_)
 rintro e wx ⟨rfl,hwx⟩
 rw [←hW1] at hwx
 subst hwx
 rw [←HP.out]
 clear hW1
 go_wp2_with fail
 go_region_held3 (fun w'=>w'.cell? ⟨b,0,none⟩=some (.pointer (some ⟨g.d,0,none⟩))∧w'.cell? ⟨b,1,none⟩=some (.string m.head))
  (first|exact ⟨k0,k1⟩|go_keep)
  (first
   | (go_at_call 85
      ((with_reducible refine (HL.out _ ?_).mono ?_))
      ·repeat (first|exact Chg.of_below HB1.out|with_reducible refine Chg.drew ?_|with_reducible refine Chg.drewN ?_ _)
      rintro e w5 ⟨lv,rfl,hsv,hb5⟩
      obtain ⟨la,lc,hlv⟩:=hsv.form
      rw [←HN.out] at hlv
      subst hlv
      have k0:=(Chg.of_below (S:=fun _=>False) hb5).cell (p:=⟨b,0,none⟩) k0 (fun x=>x)
      have k1:=(Chg.of_below (S:=fun _=>False) hb5).cell (p:=⟨b,1,none⟩) k1 (fun x=>x)
      have HB5:=Lib.hid hb5
      have HSV:=Lib.hid hsv
      clear hb5 hsv))
 have hc5:Chg (fun _=>False) wx w5:=(Chg.refl _ _).drew.trans (Chg.of_below HB5.out) (fun _ _ x=>x)
 have hi5:GathI w5 b g.d (P+1) (m,true,[]) (.slice none 0 0) w5:=
  ⟨HR1.out.chg hc5 (fun x=>x),hc5.cell HKF.out.1 (fun x=>x),frozen_chg HKF.out.2 hc5 HKF.out.1 (fun x=>x),Chg.refl _ _,World.ownsRow_nil _ _ _ _⟩
 have HC5:=Lib.hid hc5
 have HI5:=Lib.hid hi5
 clear hc5 hi5 k0 k1
 go_wp2_with fail
 go_loopw [4,6,7,8,21] (fun r _ _ _ i wr=>∃ k:Nat,k≤n∧i = .int .i64 k∧∃ v,v=r∧GathI w5 b g.d (P+1) (gathS st m (L.take k)) v wr) (fun _ _ _ _ i _=>n - (intOf i).toNat)
 case atStart=>exact ⟨0,Nat.zero_le _,rfl,_,rfl,by first|exact HI5.out|exact HI5.out.new (Chg.refl _ _).drew|exact HI5.out.new ((Chg.refl _ _).drewN _)⟩
 case round=>
  obtain ⟨k,hk,rfl,v,rfl,hgi⟩:=hrel
  have HGI:=Lib.hid hgi
  clear hgi HI5
  by_cases hlt:k<n
  ·have hlt':k<L.length:=by rw [←HN.out];exact hlt
   obtain ⟨nm,hnm⟩:∃ nm,nm=L.getD k ⟨#[]⟩:=⟨_,rfl⟩
   have hsnoc:=take_one L hlt'
   rw [←hnm] at hsnoc
   have hmem:nm∈L:=by rw [hnm,List.getD_eq_getElem?_getD,List.getElem?_eq_getElem hlt'];exact List.getElem_mem hlt'
   have hns:=HLM.out nm hmem
   obtain ⟨nb,no,rfl,hcell⟩:∃ nb no,la=some ⟨nb,no,none⟩∧wr.cell? ⟨nb,no+k,none⟩=some (.string nm):=by
    obtain ⟨a',cap',e,h⟩:=HSV.out
    cases e
    rcases h with h|⟨nb,no,rfl,hbase,h⟩
    ·rw [h] at hlt';cases hlt'
    ·refine ⟨nb,no,rfl,HGI.out.chg.cell (p:=⟨nb,no+k,none⟩) (by rw [hnm];exact h k hlt') ?_⟩
     have h1:=HSZ.out
     have h2:wx.heap.size≤nb:=hbase
     show ¬ (nb=b∨nb=P+1)
     omega
   have HSN:Hid (gathS st m (L.take (k+1))=gathF st (gathS st m (L.take k)) nm):=by
    show _=_
    rw [hsnoc,gathS_snoc]
   have hsame:=gathS_same st m (L.take k)
   obtain ⟨⟨m1,f1,rs⟩,hx⟩:∃ x,x=gathS st m (L.take k):=⟨_,rfl⟩
   rw [←hx] at HGI HSN hsame
   simp only at hsame
   obtain ⟨e1,e2,e3,-⟩:=hsame
   have hrl:rs.length≤1048576:=by rw [List.length_take] at e3;omega
   obtain ⟨c0,c1,c2,c3,c4,c5,c6,c7,hz⟩:=HGI.out.row.cell
   simp only at c0 c1
   rw [e1] at c1
   have HE:=Lib.hid (And.intro e1 e2)
   clear hsnoc hmem hnm hx e1 e2 e3 c2 c3 c4 c5 c6 c7 hz hlt'
   cases hp:placeB m.head nm with
   | none=>
    have hPL:Calls Tryz.prog 86 #[.string m.head,.string nm] wr (PlaceTo m.head nm wr):=place_any m.head nm wr (by omega)
    unfold PlaceTo at hPL
    rw [hp] at hPL
    simp only [Option.getD_none,Option.isSome_none] at hPL
    have HPL:=Lib.hid hPL
    have HX:Hid (gathS st m (L.take (k+1))=(m1,f1,rs)):=by
     show _=_
     rw [HSN.out]
     unfold gathF
     simp only [HE.out.1]
     rw [hp]
    clear hPL hp
    go_wp2_with (go_at_call 86;refine HPL.out.mono ?_;rintro e w6 ⟨rfl,hb6⟩)
    have hg6:=HGI.out.new (Chg.of_below hb6)
    refine ⟨⟨k+1,by omega,by go_num,v,rfl,?_⟩,by simp [intOf];omega⟩
    rw [HX.out]
    first|exact hg6|exact hg6.new (Chg.refl _ _).drew|exact hg6.new ((Chg.refl _ _).drewN _)
   | some a=>
    have ha:=(name_place hp).2
    have hPL:Calls Tryz.prog 86 #[.string m.head,.string nm] wr (PlaceTo m.head nm wr):=place_any m.head nm wr (by omega)
    unfold PlaceTo at hPL
    rw [hp] at hPL
    simp only [Option.getD_some,Option.isSome_some] at hPL
    have HPL:=Lib.hid hPL
    obtain ⟨⟨m2,f2,t⟩,hx2⟩:∃ x2,x2=takeR m1 f1 a (st.len nm):=⟨_,rfl⟩
    have HX:Hid (gathS st m (L.take (k+1))=(m2,f2,if t=true then rs else rs ++ [nm])):=by
     show _=_
     rw [HSN.out]
     unfold gathF
     simp only [HE.out.1]
     rw [hp]
     simp only [←hx2]
    have hFI:=HSZ.out
    have hC5:=HC5.out.size
    obtain ⟨ln,hln⟩:∃ ln,ln=st.len nm:=⟨_,rfl⟩
    have hLE:∀ W,GathI w5 b g.d (P+1) (m1,f1,rs) v W→Calls Tryz.prog 87 #[.pointer (some ⟨g.d,0,none⟩),.string nm] W fun e w'=>e = .returned (.int .i64 ln)∧W=w':=fun W hW=>by
     rw [hln]
     refine len_any g st nm W ((HD1.out.new HC5.out).chg hW.chg (fun q hq hx=>?_)) (by unfold maxLen;omega)
     rcases hx with hx|hx
     ·exact HB.out (hx▸hq)
     ·have:=HFP.out q hq
      omega
    have hTK:∀ W,GathI w5 b g.d (P+1) (m1,f1,rs) v W→Calls Tryz.prog 121 #[.int .i64 a,.int .i64 ln,.pointer (some ⟨P,0,none⟩),.pointer (some ⟨P+1,0,none⟩)] W (TakeTo b g.d P (P+1) W (m2,f2,t)):=fun W hW=>by
     rw [hx2,←hln]
     exact take_any b g.d P (P+1) m1 f1 a ln W hW.row (hW.chg.cell (p:=⟨P,0,none⟩) (HC5.out.cell HKP.out (fun x=>x)) (fun hx=>by simp only at hx;omega)) hW.fst hW.free (by omega) (by omega) (by omega) ha (by rw [hln];exact HLEN.out nm) (by rw [HE.out.2];exact hs1) (by rw [HE.out.2];exact hs2)
    have HLE:=Lib.hid hLE
    have HTK:=Lib.hid hTK
    clear hPL hp hx2 hLE hTK hln hFI hC5
    go_wp2_with (go_at_call 86;refine HPL.out.mono ?_;rintro e w6 ⟨rfl,hb6⟩;have hg6:=HGI.out.new (Chg.of_below hb6);have d0:=hg6.row.cell.1)
    have HG6:=Lib.hid hg6
    clear hb6 hg6 c0 c1 HPL
    go_wp2_with (go_at_call 87;refine (HLE.out _ (by first|exact HG6.out|exact HG6.out.new (Chg.refl _ _).drew|exact HG6.out.new ((Chg.refl _ _).drewN _))).mono ?_;rintro e w7 ⟨rfl,rfl⟩)
    go_wp2_with (go_at_call 121;refine (HTK.out _ (by first|exact HG6.out|exact HG6.out.new (Chg.refl _ _).drew|exact HG6.out.new ((Chg.refl _ _).drewN _))).mono ?_)
    rintro e w8 ⟨rfl,hr8,hf8,hz8,hc8⟩
    simp only at hr8 hf8
    have hlw:w5.heap.size≤w6.heap.size:=HG6.out.chg.size
    have hg8:GathI w5 b g.d (P+1) (m2,f2,rs) v w8:=by
     refine ⟨hr8,hf8,hz8,HG6.out.chg.trans hc8 (fun _ _ x=>x),hc8.row HG6.out.own (fun q hq hx=>?_)⟩
     have h1:=(HG6.out.own.lt q hq).1
     have h2:=HSZ.out
     have h3:=HC5.out.size
     rcases hx with hx|hx<;>omega
    have HG8:=Lib.hid hg8
    have hlw8:w5.heap.size≤w8.heap.size:=hg8.chg.size
    clear hr8 hf8 hz8 hc8 hg8 d0 HGI hlw
    cases t with
    | true=>
     go_wp2_with fail
     refine ⟨⟨k+1,by omega,by go_num,v,rfl,?_⟩,by simp [intOf];omega⟩
     rw [HX.out]
     first|exact HG8.out|exact HG8.out.new (Chg.refl _ _).drew|exact HG8.out.new ((Chg.refl _ _).drewN _)
    | false=>
     go_wp2_with (at_builtin;refine wpList_append_own _ rfl (.tmp 47) (.tmp 49) 28 rfl w5.heap.size 9 i0 (.string ⟨#[]⟩) 1 16 Tryz.underlying28 hi hz0 hz1 hz2 rfl (by decide) v rs.length (rs.map Value.string) rfl (HG8.out.own.alloc _) ⟨w8.heap.size,0,none⟩ 1 1 [.string nm] rfl rfl ?c1 ?c2 ?c3 ?c4 ?c5 ?c6)
     case c1=>exact cell_one_new _ _ _
     case c2=>intro u hu;simp at hu;rw [hu];rfl
     case c3=>unfold maxLen;omega
     case c4=>omega
     case c5=>simp;omega
     case c6=>
      intro v' w9 hown9 hgrow9 _
      have hc9:Chg (fun q=>some q=v.ownBlock) (w8.alloc (.cells #[.string nm] 9)) w9:=Chg.of_grown hgrow9 (fun q hq _=>hq.symm)
      have ha9:Chg (fun _=>False) w8 (w8.alloc (.cells #[.string nm] 9)):=Chg.alloc _ (Chg.refl _ _) _
      have hi9:=HG8.out.new ha9
      have hlw:=hi9.own.lt
      have h2:=HSZ.out
      have h3:=HC5.out.size
      have nb1:¬ some b=v.ownBlock:=fun hx=>by have:=(hlw b hx.symm).1;omega
      have nb2:¬ some (P+1)=v.ownBlock:=fun hx=>by have:=(hlw (P+1) hx.symm).1;omega
      have hg9:GathI w5 b g.d (P+1) (m2,f2,rs ++ [nm]) v' w9:=by
       refine ⟨hi9.row.chg hc9 nb1,hc9.cell hi9.fst nb2,frozen_chg hi9.free hc9 hi9.fst nb2,hi9.chg.trans hc9 (fun q hq hx=>?_),?_⟩
       ·have:=(hlw q hx.symm).1
        omega
       ·simp only [List.length_append,List.map_append,List.map_cons,List.map_nil,List.length_cons,List.length_nil]
        exact hown9
      have HG9:=Lib.hid hg9
      clear hc9 ha9 hi9 hlw h2 h3 nb1 nb2 hg9 hown9 hgrow9
      go_wp2_with fail
      refine ⟨⟨k+1,by omega,by go_num,v',rfl,?_⟩,by simp [intOf];omega⟩
      rw [HX.out]
      first|exact HG9.out|exact HG9.out.new (Chg.refl _ _).drew|exact HG9.out.new ((Chg.refl _ _).drewN _)
  ·obtain rfl:k=n:=by omega
   rw [HN.out,List.take_length] at HGI
   go_wp2_with fail
   go_ret
   refine ⟨_,rfl,HGI.out.row,?_,?_⟩
   ·refine strs_up (strs_of_own HGI.out.own) ?_
    have h1:=HSZ.out
    have h2:=HC5.out.size
    have h3:=HP.out
    omega
   ·have h4:Chg (fun k=>k=b) w w5:=((Chg.of_below (S:=fun _=>False) HB1.out).trans HC5.out (fun _ _ x=>x)).wide (fun _ _ x=>x.elim)
    refine h4.trans HGI.out.chg (fun i hi hx=>?_)
    rcases hx with hx|hx
    ·exact hx
    ·have h3:=HP.out
     omega
end Go.Proofs.YtnemlgfldfedpaaGreatDoor
namespace Go.Proofs.YtnemlgfldfedpaaGreatDoor
open Go.RowKit Go.Deep
attribute [local go_sem] fr_opt
theorem find_some_mem {st:St} {nm:ByteArray} (h:∃ p∈st.fs,p.1=nm):(st.find nm).isSome=true:=by
 obtain ⟨p,hp,rfl⟩:=h
 unfold St.find
 rw [Option.isSome_map,List.find?_isSome]
 exact ⟨p,hp,by simp⟩
theorem Calm.readyE {n:Nat} {st:St} (h:Calm n st) {ts:List ByteArray} (ht:∀ t∈ts,(st.find t).isSome=true):Go.Proofs.YtnemlgfldfedpaaGreatDoor.readyE st ts=0:=by
 unfold Go.Proofs.YtnemlgfldfedpaaGreatDoor.readyE
 rw [if_neg (by rw [h.down];simp),if_pos]
 rw [List.all_eq_true]
 exact ht
theorem Calm.deleteE {n:Nat} {st:St} (h:Calm n st) {ts:List ByteArray} (ht:∀ t∈ts,(st.find t).isSome=true):Go.Proofs.YtnemlgfldfedpaaGreatDoor.deleteE st ts=0:=by
 unfold Go.Proofs.YtnemlgfldfedpaaGreatDoor.deleteE
 rw [if_pos (h.readyE ht),h.burnE]
theorem Calm.deleteS {n:Nat} {st:St} (h:Calm n st) {ts:List ByteArray} (ht:∀ t∈ts,(st.find t).isSome=true):Go.Proofs.YtnemlgfldfedpaaGreatDoor.deleteS st ts=deleteAll st ts:=by
 unfold Go.Proofs.YtnemlgfldfedpaaGreatDoor.deleteS
 rw [if_pos (h.readyE ht),if_pos h.burnE,h.burnS]
theorem deleteAll_keeps (st:St) (ts:List ByteArray):(deleteAll st ts).lit=st.lit∧(deleteAll st ts).down=st.down∧(deleteAll st ts).cap=st.cap:=by
 unfold deleteAll
 induction ts generalizing st with
 | nil=>exact ⟨rfl,rfl,rfl⟩
 | cons t ts ih=>exact ih (removeS st t)
theorem Calm.delete {n:Nat} {st:St} (h:Calm n st) (ts:List ByteArray):Calm n (deleteAll st ts):=
 ⟨h.good.deleteAll ts,(deleteAll_keeps st ts).1.trans h.lit,(deleteAll_keeps st ts).2.1.trans h.down⟩
theorem Good.lenN {n:Nat} {st:St} (h:Good n st) (nm:ByteArray):st.len nm≤16777216:=by
 have:=h.sizeOk.len nm
 have:=h.size
 have:=h.cap
 omega
def openX (st:St) (head:ByteArray) (size:Int):RowM×Bool×List ByteArray:=gathS st (newRow head size) (namesS head st)
def openM (st:St) (head:ByteArray) (size:Int):RowM:={ (openX st head size).1 with synced:=(openX st head size).1.begin_,touched:=(openX st head size).1.begin_ }
def openS (st:St) (head:ByteArray) (size:Int):St:=deleteAll st (openX st head size).2.2
def OpenG (w0:World) (g:Gh) (st:St) (m:RowM) (w:World) (e:Ending) (w':World):Prop:=
 ∃ b,e = .returned (.tuple #[.pointer (some ⟨b,0,none⟩),.int .i64 0])∧w.heap.size≤b∧∃ g',RowG w0 w' b g' st m∧Gh.To w g g' w'
theorem openX_found (st:St) (head:ByteArray) (size:Int):∀ t∈(openX st head size).2.2,(st.find t).isSome=true:=fun t ht=>
 find_some_mem (namesS_mem ((gathS_same st (newRow head size) (namesS head st)).2.2.2 t ht))
set_option maxHeartbeats 1000000 in
set_option maxRecDepth 100000 in
theorem open_calm (w0:World) (g:Gh) (st:St) (head:ByteArray) (size:Int) (n:Nat) (w:World) (hd:DiskAt w g st) (hc:Chg (fun _=>False) w0 w) (hlow:∀ k∈g.fp,w0.heap.size≤k) (ht:Tab10 w0)
 (hk:Calm n st) (hn:n≤1048576) (hnm:∀ p∈st.fs,p.1.size≤1048576) (hs1:16≤size) (hs2:size≤4096) :
 Calls Tryz.prog 23 #[.pointer (some ⟨g.d,0,none⟩),.string head,.int .i64 size] w (OpenG w0 g (openS st head size) (openM st head size) w):=by
 have hD:=down_any g st w hd
 rw [hk.down] at hD
 obtain ⟨W1,hW1⟩:∃ W,W=w.alloc (.cells ((newRow head size).cells g.d) 101):=⟨_,rfl⟩
 have hc1:Chg (fun _=>False) w W1:=hW1▸Chg.alloc _ (Chg.refl _ _) _
 have hd1:=hd.new hc1
 have hr1:RowAt W1 w.heap.size g.d (newRow head size):=by unfold RowAt;rw [hW1];exact heap_alloc_new w _
 have hout:w.heap.size∉g.fp:=fun hx=>(by have:=hd.lt _ hx;omega)
 have hg1:RowG w0 W1 w.heap.size g st (newRow head size):=⟨hd1,hr1,hout,hc.trans hc1 (fun _ _ x=>x),hlow,hc.size,ht⟩
 have hG:=gather_any w.heap.size g st (newRow head size) W1 hr1 hd1 hout (by have:=hk.good.len;omega) hnm (fun nm=>by have:=hk.good.lenN nm;omega) hs1 hs2
 rw [show (newRow head size).head=head from rfl,show gathS st (newRow head size) (namesS head st)=openX st head size from rfl] at hG
 have hfound:=openX_found st head size
 have hlen:(openX st head size).2.2.length≤1048576:=by
  have h1:=(gathS_same st (newRow head size) (namesS head st)).2.2.1
  have h2:=namesS_length head st
  have h3:=hk.good.len
  exact Nat.le_trans h1 (by omega)
 have hDL:∀ W v,DiskAt W g st→Strs W W1.heap.size v (openX st head size).2.2→Calls Tryz.prog 49 #[.pointer (some ⟨g.d,0,none⟩),v] W (OpTo g 0 (openS st head size) W):=fun W v hdW hsv=>by
  have:=delete_any g st v _ W hdW (strs_up hsv (Nat.zero_le _)) (fun q o len cap hv h0 hx=>by
   obtain ⟨a,c,e,h⟩:=hsv
   rw [e] at hv
   cases hv
   rcases h with h|⟨q',o',hq,hb,_⟩
   ·rw [h] at h0;exact absurd h0 (by simp)
   ·cases hq
    have h1:=hd.lt _ hx
    have h2:=hc1.size
    omega) (fun t ht=>by
   obtain ⟨p,hp,rfl⟩:=namesS_mem ((gathS_same st (newRow head size) (namesS head st)).2.2.2 t ht)
   have:=hnm p hp
   unfold maxLen
   omega) (by omega) hk.good.fuse hk.good.sizeOk (by have:=hk.good.size;have:=hk.good.cap;omega)
  rwa [hk.deleteE hfound,hk.deleteS hfound] at this
 have hsame:=gathS_same st (newRow head size) (namesS head st)
 rw [show gathS st (newRow head size) (namesS head st)=openX st head size from rfl] at hsame
 have hMM:openM st head size = { (openX st head size).1 with synced:=(openX st head size).1.begin_,touched:=(openX st head size).1.begin_ }:=rfl
 have hnil:(openX st head size).2.2=[]→openS st head size=st:=fun h=>by unfold openS;rw [h];rfl
 obtain ⟨⟨m1,f1,rs⟩,hx⟩:∃ x,x=openX st head size:=⟨_,rfl⟩
 rw [←hx] at hG hDL hMM hnil hlen
 simp only at hG hDL hMM hnil hlen
 obtain ⟨n',hn'⟩:∃ n',n'=rs.length:=⟨_,rfl⟩
 have HN:=Lib.hid hn'
 have HD:=Lib.hid hD
 have HG:=Lib.hid hG
 have HG1:=Lib.hid hg1
 have HW1:=Lib.hid hW1
 have HC1:=Lib.hid hc1
 have HDL:=Lib.hid hDL
 have HMM:=Lib.hid hMM
 have HNIL:=Lib.hid hnil
 have HOUT:=Lib.hid hout
 rw [←hn'] at hlen
 clear hD hG hg1 hr1 hd1 hc1 hd hDL hMM hfound hsame hx hk hnm hnil hn' hn hout
 go_enter Tryz.func23,Tryz.ntmps23
 go_wp2_with (go_at_call 47;refine HD.out.mono ?_;rintro e wx ⟨rfl,rfl⟩)
 unfold newRow RowM.cells at hW1
 simp only at hW1
 rw [←hW1]
 go_wp2_with (go_at_call 48;refine HG.out.mono ?_)
 rintro e w2 ⟨rv,rfl,hr2,hs2',hc2⟩
 simp only at hr2 hs2'
 obtain ⟨ra,rc,hrv⟩:=hs2'.form
 rw [←HN.out] at hrv
 subst hrv
 have hg2:RowG w0 w2 w.heap.size g st m1:=by
  have ht2:RowTo W1 w.heap.size g g w2:=⟨hc2.wide (fun _ _ x=>.inl x),fun _ x=>.inl x,rfl⟩
  exact HG1.out.step (HG1.out.disk.chg hc2 (fun q hq hx=>HOUT.out (hx▸hq))) hr2 ht2
 have HG2:=Lib.hid hg2
 have HS2:=Lib.hid hs2'
 have HC2:=Lib.hid hc2
 have k0:=hg2.row.cell.1
 clear hr2 hs2' hc2 hg2 hW1
 have hfin:∀ W g' st',RowG w0 W w.heap.size g' st' m1→Gh.To w2 g g' W→Gh.To w g g' W:=fun W g' st' _ hto=>by
  have hs1:=HC1.out.size
  have hs2:=HC2.out.size
  refine ⟨⟨hto.chg.os.trans (HC2.out.os.trans HC1.out.os),hto.chg.tape.trans (HC2.out.tape.trans HC1.out.tape),hto.chg.output.trans (HC2.out.output.trans HC1.out.output),by have:=hto.chg.size;omega,fun q hq hx=>?_⟩,fun q hq=>?_,hto.d⟩
  ·rw [hto.chg.block q (by omega) hx,HC2.out.block q (by omega) (by omega),HC1.out.block q hq (fun x=>x)]
  ·rcases hto.fp q hq with h|h
   ·exact .inl h
   ·exact .inr (by omega)
 have HFIN:=Lib.hid hfin
 clear hfin
 by_cases hr0:n'=0
 case' pos=>
  subst hr0
  go_wp2_with fail
  generalize hw3:w2=w3
  obtain ⟨g3,hg3⟩:∃ g3,g3=g:=⟨_,rfl⟩
  have h3:RowG w0 w3 w.heap.size g3 (openS st head size) m1∧Gh.To w g g3 w3:=by
   have e:=HNIL.out (List.length_eq_zero_iff.1 HN.out.symm)
   rw [hg3,e,←hw3]
   exact ⟨HG2.out,HFIN.out w2 g st HG2.out (Gh.To.refl _ _)⟩
  clear hw3 hg3
 case' neg=>
  have hpos:0<n':=by omega
  go_wp2_with (go_at_call 49;refine (HDL.out _ _ HG2.out.disk HS2.out).mono ?_;rintro e w3 ⟨rfl,g3,hd3,ht3⟩)
  have h3:RowG w0 w3 w.heap.size g3 (openS st head size) m1∧Gh.To w g g3 w3:=by
   have h4:=HG2.out.op hd3 ht3
   exact ⟨h4.1,HFIN.out w3 g3 _ h4.1 ht3⟩
  clear hd3 ht3
 all_goals
  obtain ⟨c0,c1,c2,c3,c4,c5,c6,c7,hz⟩:=h3.1.row.cell
  have z6:=hz 6
  have z7:=hz 7
  have H3:=Lib.hid h3
  clear h3 hz c0 c1 c2 c4 c5 k0
  go_region
  go_wp2_with fail
  go_ret2
  have h4:=H3.out.1.set 6 (.int .i64 m1.begin_) { m1 with synced:=m1.begin_ } rfl
  have h5:=h4.1.set 7 (.int .i64 m1.begin_) { m1 with synced:=m1.begin_,touched:=m1.begin_ } rfl
  rw [←HMM.out] at h5
  have h6:Gh.To w g g3 ((w3.setCell ⟨w.heap.size,6,none⟩ (.int .i64 m1.begin_)).setCell ⟨w.heap.size,7,none⟩ (.int .i64 m1.begin_)):=
   ⟨Chg.setCell (Chg.setCell H3.out.2.chg (fun hx=>absurd hx (Nat.lt_irrefl _)) _) (fun hx=>absurd hx (Nat.lt_irrefl _)) _,H3.out.2.fp,H3.out.2.d⟩
  refine ⟨w.heap.size,rfl,Nat.le_refl _,g3,?_,?_⟩
  ·first|exact h5.1|exact h5.1.drew|exact h5.1.drewN _
  ·first|exact h6|exact ⟨h6.chg.drew,h6.fp,h6.d⟩
end Go.Proofs.YtnemlgfldfedpaaGreatDoor
namespace Go.Proofs.YtnemlgfldfedpaaGreatDoor
open Go.RowKit Go.Deep
attribute [local go_sem] fr_opt
def plF (x z:Nat):Nat→Nat→List Nat
 | 0,_=>[]
 | f+1,u=>if u<x then u :: plF x z f (u+z) else []
theorem plF_done (x z:Nat) {u:Nat} (h:¬ u<x):∀ f,plF x z f u=[]
 | 0=>rfl
 | f+1=>by unfold plF;rw [if_neg h]
theorem plF_more (x z:Nat) (hz:0<z):∀ (f:Nat) (u:Nat),x - u≤f→plF x z (f+1) u=plF x z f u
 | 0,u,h=>by rw [plF_done x z (by omega),plF_done x z (by omega)]
 | f+1,u,h=>by
  by_cases hu:u<x
  ·unfold plF
   rw [if_pos hu,if_pos hu,plF_more x z hz f (u+z) (by omega)]
  ·rw [plF_done x z hu,plF_done x z hu]
def plS (x z u:Nat):List Nat:=plF x z x u
theorem plS_step (x z u:Nat) (hz:0<z) (hu:u<x):plS x z u=u :: plS x z (u+z):=by
 unfold plS
 rw [←plF_more x z hz x u (by omega)]
 show (if u<x then _ else _)=_
 rw [if_pos hu]
theorem plS_done (x z u:Nat) (hu:¬ u<x):plS x z u=[]:=plF_done x z hu x
theorem plS_mem {x z:Nat} (hz:0<z) (f u:Nat) (hf:x - u≤f):∀ p∈plS x z u,u≤p∧p<x:=by
 induction f generalizing u with
 | zero=>rw [plS_done x z u (by omega)];exact fun p hp=>by cases hp
 | succ f ih=>
  intro p hp
  by_cases hu:u<x
  ·rw [plS_step x z u hz hu] at hp
   rcases List.mem_cons.1 hp with rfl|hp
   ·exact ⟨Nat.le_refl _,hu⟩
   ·have:=ih (u+z) (by omega) p hp
    omega
  ·rw [plS_done x z u hu] at hp
   cases hp
theorem plS_length {x z:Nat} (hz:0<z) (f u:Nat) (hf:x - u≤f):(plS x z u).length≤x - u:=by
 induction f generalizing u with
 | zero=>rw [plS_done x z u (by omega)];exact Nat.zero_le _
 | succ f ih=>
  by_cases hu:u<x
  ·rw [plS_step x z u hz hu,List.length_cons]
   have:=ih (u+z) (by omega)
   omega
  ·rw [plS_done x z u hu]
   exact Nat.zero_le _
set_option maxHeartbeats 2000000 in
set_option maxRecDepth 100000 in
theorem names_any (w0:World) (b:Nat) (g:Gh) (st:St) (m:RowM) (x z u:Nat) (w:World) (h:RowG w0 w b g st m) (hx:m.next=(x:Int)) (hz:m.size=(z:Int)) (hx1:x≤100000000) (hz1:16≤z) (hz2:z≤4096) (hh:m.head.size≤1048576) (hu:u≤1099511627776) :
 Calls Tryz.prog 58 #[.pointer (some ⟨b,0,none⟩),.int .i64 u] w fun e w'=>∃ v,e = .returned v∧Strs w' w.heap.size v ((plS x z u).map (nameB m.head))∧Below w.heap.size w w':=by
 have hNm:∀ W (p:Nat),Chg (fun _=>False) w W→p<x→Calls Tryz.prog 55 #[.pointer (some ⟨b,0,none⟩),.int .i64 p] W fun e w'=>e = .returned (.string (nameB m.head p))∧Below W.heap.size W w':=fun W p hc hp=>
  rname_any b g.d m W (h.new hc).row (h.new hc).tab p (by omega) (by omega)
 have HNM:=Lib.hid hNm
 have H:=Lib.hid h
 have hln:=plS_length (x:=x) (z:=z) (by omega) x u (by omega)
 obtain ⟨tot,htot⟩:∃ tot,tot=(plS x z u).map (nameB m.head):=⟨_,rfl⟩
 have hln2:tot.length≤100000000:=by rw [htot,List.length_map];omega
 rw [←htot]
 have HT:=Lib.hid htot
 have HX:=Lib.hid (And.intro hx hz)
 obtain ⟨i0,hi,hz0,hz1',hz2'⟩:=info_parts info_str
 clear hNm h htot hln hx hz
 go_enter Tryz.func58,Tryz.ntmps58
 go_wp2_with fail
 go_loopw [5,6] (fun r i wr=>∃ (p:Nat) (acc:List ByteArray) (v:Value),v=r∧i = .int .i64 p∧p≤1099511627776∧tot=acc ++ (plS x z p).map (nameB m.head)∧Below w.heap.size w wr∧wr.ownsRow w.heap.size 9 1 v acc.length (acc.map Value.string)) (fun _ i _=>x - (intOf i).toNat)
 case atStart=>exact ⟨u,[],_,rfl,rfl,hu,HT.out,Below.refl _ _,World.ownsRow_nil _ _ _ _⟩
 case round=>
  obtain ⟨p,acc,v,rfl,rfl,hp,htot,hb,hown⟩:=hrel
  have hg:=H.out.new (Chg.of_below (S:=fun _=>False) hb)
  obtain ⟨c0,c1,c2,c3,c4,c5,c6,c7,hfz⟩:=hg.row.cell
  rw [HX.out.1] at c5
  rw [HX.out.2] at c2
  clear hfz c0 c1 c3 c4 c6 c7
  by_cases hlt:p<x
  ·have hpl:tot=(acc ++ [nameB m.head p]) ++ (plS x z (p+z)).map (nameB m.head):=by
    rw [htot,plS_step x z p (by omega) hlt,List.map_cons,List.append_assoc]
    rfl
   have hal:acc.length<tot.length:=by rw [hpl];simp
   have HPL:=Lib.hid hpl
   have HB:=Lib.hid hb
   have HOWN:=Lib.hid hown
   have hNM:=HNM.out wr p (Chg.of_below hb) hlt
   have hw1:IntKind.i64.wrap ((p:Int)+z)=p+z:=IntWalk.i64_in _ (by omega)
   have HNM1:=Lib.hid hNM
   clear hpl hb hown hNM htot hg
   have HG:=Lib.hid (H.out.new (Chg.of_below (S:=fun _=>False) HB.out))
   go_wp2_with (first
    | (go_at_call 55;refine HNM1.out.mono ?_;rintro e w6 ⟨rfl,hb6⟩;have ho6:=(Chg.of_below (S:=fun _=>False) hb6).row HOWN.out (fun _ _ x=>x))
    | (at_builtin;refine wpList_append_own _ rfl (.tmp 20) (.tmp 24) 28 rfl w.heap.size 9 i0 (.string ⟨#[]⟩) 1 16 Tryz.underlying28 hi hz0 hz1' hz2' rfl (by decide) v acc.length (acc.map Value.string) rfl (ho6.alloc _) ⟨w6.heap.size,0,none⟩ 1 1 [.string (nameB m.head p)] rfl rfl ?c1 ?c2 ?c3 ?c4 ?c5 ?c6))
   case c1=>exact cell_one_new _ _ _
   case c2=>intro u hu;simp at hu;rw [hu];rfl
   case c3=>unfold maxLen;omega
   case c4=>omega
   case c5=>simp;have:=HB.out.size;have:=hb6.size;omega
   case c6=>
    intro v' w9 hown9 hgrow9 _
    have hb7:Below w.heap.size w (w6.alloc (.cells #[.string (nameB m.head p)] 9)):=by
     have h1:=HB.out.trans (hb6.mono HB.out.size)
     exact h1.alloc h1.size _
    have hb9:Below w.heap.size w w9:=by
     refine hb7.grown hgrow9 hb7.size (fun q hq=>?_)
     have:=(ho6.lt q hq).1
     omega
    have hg9:=H.out.new (Chg.of_below (S:=fun _=>False) hb9)
    have d2:=hg9.row.cell.2.2.1
    rw [HX.out.2] at d2
    have HB9:=Lib.hid hb9
    have HO9:=Lib.hid hown9
    clear hb6 ho6 hb7 hb9 hg9 hown9 hgrow9 c2 c5
    go_wp2_with fail
    refine ⟨⟨p+z,acc ++ [nameB m.head p],v',rfl,by go_num,by omega,HPL.out,HB9.out,?_⟩,by simp [intOf];omega⟩
    simp only [List.length_append,List.map_append,List.map_cons,List.map_nil,List.length_cons,List.length_nil]
    exact HO9.out
  ·have htl:tot=acc:=by rw [htot,plS_done x z p hlt];simp
   have HTL:=Lib.hid htl
   have HB:=Lib.hid hb
   have HOWN:=Lib.hid hown
   clear htl hb hown htot hg
   go_wp2_with fail
   go_ret
   exact ⟨_,rfl,by rw [HTL.out];exact strs_of_own HOWN.out,HB.out⟩
theorem Calm.syncE {n:Nat} {st:St} (h:Calm n st) {ts:List ByteArray} (ht:∀ t∈ts,(st.find t).isSome=true):Go.Proofs.YtnemlgfldfedpaaGreatDoor.syncE st ts=0:=h.deleteE ht
theorem Calm.syncS {n:Nat} {st:St} (h:Calm n st) {ts:List ByteArray} (ht:∀ t∈ts,(st.find t).isSome=true):Go.Proofs.YtnemlgfldfedpaaGreatDoor.syncS st ts=syncAll st ts:=by
 unfold Go.Proofs.YtnemlgfldfedpaaGreatDoor.syncS
 rw [if_pos (h.readyE ht),if_pos h.burnE,h.burnS]
theorem sync1_keeps (st:St) (t:ByteArray):(sync1 st t).lit=st.lit∧(sync1 st t).down=st.down∧(sync1 st t).cap=st.cap∧(sync1 st t).size=st.size:=by
 unfold sync1
 split<;>exact ⟨rfl,rfl,rfl,rfl⟩
theorem syncAll_keeps (st:St) (ts:List ByteArray):(syncAll st ts).lit=st.lit∧(syncAll st ts).down=st.down∧(syncAll st ts).cap=st.cap∧(syncAll st ts).size=st.size:=by
 unfold syncAll
 induction ts generalizing st with
 | nil=>exact ⟨rfl,rfl,rfl,rfl⟩
 | cons t ts ih=>
  have h1:=ih (sync1 st t)
  have h2:=sync1_keeps st t
  exact ⟨h1.1.trans h2.1,h1.2.1.trans h2.2.1,h1.2.2.1.trans h2.2.2.1,h1.2.2.2.trans h2.2.2.2⟩
theorem Calm.sync {n:Nat} {st:St} (h:Calm n st) (ts:List ByteArray):Calm n (syncAll st ts):=
 ⟨h.good.syncAll ts,(syncAll_keeps st ts).1.trans h.lit,(syncAll_keeps st ts).2.1.trans h.down⟩
theorem out_new {w w':World} {g:Gh} {st:St} {B:Nat} {v:Value} {ts:List ByteArray} (hd:DiskAt w g st) (hs:Strs w' B v ts) (hB:w.heap.size≤B):Out g v:=fun q o len cap hv h0 hx=>by
 obtain ⟨a,c,e,h⟩:=hs
 rw [e] at hv
 cases hv
 rcases h with h|⟨q',o',hq,hb,_⟩
 ·rw [h] at h0;exact absurd h0 (by simp)
 ·cases hq
  have h1:=hd.lt _ hx
  omega
def syncedM (m:RowM):RowM:={ m with synced:=m.end_,touched:=m.next }
def rowNames (m:RowM) (u:Nat):List ByteArray:=(plS m.next.toNat m.size.toNat u).map (nameB m.head)
set_option maxHeartbeats 2000000 in
set_option maxRecDepth 100000 in
theorem rsync_any (w0:World) (b:Nat) (g:Gh) (st:St) (m:RowM) (n:Nat) (w:World) (h:RowG w0 w b g st m) (hk:Calm n st) (hn:n≤1048576) (hx0:0≤m.next) (hx1:m.next≤100000000) (hz1:16≤m.size) (hz2:m.size≤4096) (hh:m.head.size≤1048576)
 (ht0:0≤m.touched) (ht1:m.touched≤1099511627776) (hfound:∀ t∈rowNames m m.touched.toNat,(st.find t).isSome=true) :
 Calls Tryz.prog 28 #[.pointer (some ⟨b,0,none⟩)] w fun e w'=>e = .returned (.int .i64 0)∧∃ g',RowG w0 w' b g' (syncAll st (rowNames m m.touched.toNat)) (syncedM m)∧RowTo w b g g' w':=by
 have hNm:=names_any w0 b g st m m.next.toNat m.size.toNat m.touched.toNat w h (by omega) (by omega) (by omega) (by omega) (by omega) hh (by omega)
 rw [show ((m.touched.toNat:Nat):Int)=m.touched by omega] at hNm
 have hsz:∀ t∈rowNames m m.touched.toNat,t.size≤maxLen:=fun t ht=>by
  obtain ⟨p,_,rfl⟩:=List.mem_map.1 ht
  rw [nameB_size]
  unfold maxLen
  omega
 have hlen:(rowNames m m.touched.toNat).length≤100000000:=by
  unfold rowNames
  rw [List.length_map]
  have:=plS_length (x:=m.next.toNat) (z:=m.size.toNat) (by omega) m.next.toNat m.touched.toNat (by omega)
  omega
 rw [show (plS m.next.toNat m.size.toNat m.touched.toNat).map (nameB m.head)=rowNames m m.touched.toNat from rfl] at hNm
 obtain ⟨rs,hrs⟩:∃ rs,rs=rowNames m m.touched.toNat:=⟨_,rfl⟩
 rw [←hrs] at hNm hsz hlen hfound ⊢
 have hSY:∀ W v,RowG w0 W b g st m→Strs W w.heap.size v rs→Calls Tryz.prog 59 #[.pointer (some ⟨g.d,0,none⟩),v] W (OpTo g 0 (syncAll st rs) W):=fun W v hW hsv=>by
  have:=syncd_any g st v rs W hW.disk (strs_up hsv (Nat.zero_le _)) (out_new h.disk hsv (Nat.le_refl _)) hsz (by omega) hk.good.fuse (hk.good.allIn (by omega))
  rwa [hk.syncE hfound,hk.syncS hfound] at this
 obtain ⟨c0,c1,c2,c3,c4,c5,c6,c7,hfz⟩:=h.row.cell
 obtain ⟨n',hn'⟩:∃ n',n'=rs.length:=⟨_,rfl⟩
 rw [←hn'] at hlen
 have HNM:=Lib.hid hNm
 have HSY:=Lib.hid hSY
 have HN:=Lib.hid hn'
 have H:=Lib.hid h
 clear hNm hSY hn' hrs hsz hfound h hfz c0 c1 c2 c3 c4 c5 c6 hk
 go_enter Tryz.func28,Tryz.ntmps28
 go_wp2_with (go_at_call 58;refine HNM.out.mono ?_)
 rintro e w2 ⟨rv,rfl,hsv,hb2⟩
 obtain ⟨ra,rc,hrv⟩:=hsv.form
 rw [←HN.out] at hrv
 subst hrv
 have hg2:=H.out.new (Chg.of_below (S:=fun _=>False) hb2)
 have k0:=hg2.row.cell.1
 have HG2:=Lib.hid hg2
 have HSV:=Lib.hid hsv
 have HB2:=Lib.hid hb2
 clear hg2 hsv hb2 c7
 by_cases hr0:n'=0
 case' pos=>
  subst hr0
  go_wp2_with fail
  generalize hw3:w2=w3
  obtain ⟨g3,hg3⟩:∃ g3,g3=g:=⟨_,rfl⟩
  have h3:RowG w0 w3 b g3 (syncAll st rs) m∧RowTo w b g g3 w3:=by
   have e:=List.length_eq_zero_iff.1 HN.out.symm
   rw [hg3,e,←hw3]
   exact ⟨HG2.out,RowTo.new b g (Chg.of_below HB2.out)⟩
  clear hw3 hg3
 case' neg=>
  have hpos:0<n':=by omega
  go_wp2_with (go_at_call 59;refine (HSY.out _ _ HG2.out HSV.out).mono ?_;rintro e w3 ⟨rfl,g3,hd3,ht3⟩)
  have h3:RowG w0 w3 b g3 (syncAll st rs) m∧RowTo w b g g3 w3:=by
   have h4:=HG2.out.op hd3 ht3
   exact ⟨h4.1,(RowTo.new b g (Chg.of_below HB2.out)).trans h4.2⟩
  clear hd3 ht3
 all_goals
  obtain ⟨c0,c1,c2,c3,c4,c5,c6,c7,hz⟩:=h3.1.row.cell
  have z6:=hz 6
  have z7:=hz 7
  have H3:=Lib.hid h3
  clear h3 hz c0 c1 c2 c3 k0
  go_region
  go_wp2_with fail
  go_ret
  have h4:=H3.out.1.set 6 (.int .i64 m.end_) { m with synced:=m.end_ } rfl
  have h5:=h4.1.set 7 (.int .i64 m.next) (syncedM m) rfl
  refine ⟨rfl,g3,?_,?_⟩
  ·first|exact h5.1|exact h5.1.drew|exact h5.1.drewN _
  ·have h6:=H3.out.2.trans (h4.2.trans h5.2)
   first|exact h6|exact ⟨h6.chg.drew,h6.fp,h6.d⟩
end Go.Proofs.YtnemlgfldfedpaaGreatDoor
namespace Go.Proofs.YtnemlgfldfedpaaGreatDoor
open Go.RowKit Go.Deep
attribute [local go_sem] fr_opt
set_option maxRecDepth 100000 in
theorem rbegin_any (b d:Nat) (m:RowM) (w:World) (h:RowAt w b d m):Calls Tryz.prog 79 #[.pointer (some ⟨b,0,none⟩)] w fun e w'=>e = .returned (.int .i64 m.begin_)∧w=w':=by
 obtain ⟨c0,c1,c2,c3,c4,c5,c6,c7,hz⟩:=h.cell
 clear h hz
 go_enter Tryz.func79,Tryz.ntmps79
 go_wp2_with fail
 go_ret
 exact ⟨rfl,rfl⟩
set_option maxRecDepth 100000 in
theorem rend_any (b d:Nat) (m:RowM) (w:World) (h:RowAt w b d m):Calls Tryz.prog 42 #[.pointer (some ⟨b,0,none⟩)] w fun e w'=>e = .returned (.int .i64 m.end_)∧w=w':=by
 obtain ⟨c0,c1,c2,c3,c4,c5,c6,c7,hz⟩:=h.cell
 clear h hz
 go_enter Tryz.func42,Tryz.ntmps42
 go_wp2_with fail
 go_ret
 exact ⟨rfl,rfl⟩
set_option maxRecDepth 100000 in
theorem rplace_any (b d:Nat) (m:RowM) (a:Int) (w:World) (h:RowAt w b d m) (h0:0≤a) (h1:a≤1099511627776) (hs1:16≤m.size) (hs2:m.size≤4096) :
 Calls Tryz.prog 80 #[.pointer (some ⟨b,0,none⟩),.int .i64 a] w fun e w'=>e = .returned (.int .i64 (a - a % m.size))∧w=w':=by
 obtain ⟨c0,c1,c2,c3,c4,c5,c6,c7,hz⟩:=h.cell
 obtain ⟨head,size,begin_,end_,next,synced,touched⟩:=m
 simp only at *
 have hne:¬ size=0:=by omega
 have hneb:(size == 0)=false:=by simpa using hne
 have hm0:0≤a % size:=Int.emod_nonneg _ hne
 have hm1:a % size<size:=Int.emod_lt_of_pos _ (by omega)
 have hw:IntKind.i64.wrap (a - a % size)=a - a % size:=IntWalk.i64_in _ (by omega)
 have ht:Int.tmod a size=a % size:=Int.tmod_eq_emod_of_nonneg h0
 clear h hz
 go_enter Tryz.func80,Tryz.ntmps80
 go_wp2_with fail
 go_ret
 exact ⟨rfl,rfl⟩
def leftR (m:RowM) (a:Int):Int:=if a<m.begin_∨m.end_≤a then 0 else min (a - a % m.size+m.size) m.end_ - a
set_option maxRecDepth 100000 in
theorem rleft_any (b d:Nat) (m:RowM) (a:Int) (w:World) (h:RowAt w b d m) (hb0:0≤m.begin_) (he:m.end_≤1099511627776) (hs1:16≤m.size) (hs2:m.size≤4096) :
 Calls Tryz.prog 51 #[.pointer (some ⟨b,0,none⟩),.int .i64 a] w fun e w'=>e = .returned (.int .i64 (leftR m a))∧∃ q,w'=w.drewN q:=by
 obtain ⟨c0,c1,c2,c3,c4,c5,c6,c7,hz⟩:=h.cell
 by_cases h1:a<m.begin_
 ·unfold leftR
  rw [if_pos (.inl h1)]
  clear h hz
  go_enter Tryz.func51,Tryz.ntmps51
  go_wp2_with fail
  go_ret
  exact ⟨rfl,0,rfl⟩
 ·by_cases h2:m.end_≤a
  ·unfold leftR
   rw [if_pos (.inr h2)]
   clear h hz
   go_enter Tryz.func51,Tryz.ntmps51
   go_wp2_with fail
   go_ret
   exact ⟨rfl,0,rfl⟩
  ·have hP:∀ q,Calls Tryz.prog 80 #[.pointer (some ⟨b,0,none⟩),.int .i64 a] (w.drewN q) fun e w'=>e = .returned (.int .i64 (a - a % m.size))∧w.drewN q=w':=fun q=>
    rplace_any b d m a (w.drewN q) h (by omega) (by omega) hs1 hs2
   have hL:leftR m a=min (a - a % m.size+m.size) m.end_ - a:=by unfold leftR;rw [if_neg (by omega)]
   rw [hL]
   obtain ⟨head,size,begin_,end_,next,synced,touched⟩:=m
   simp only at *
   have hne:¬ size=0:=by omega
   have hm0:0≤a % size:=Int.emod_nonneg _ hne
   have hm1:a % size<size:=Int.emod_lt_of_pos _ (by omega)
   obtain ⟨p,hp⟩:∃ p,p=a - a % size:=⟨_,rfl⟩
   have hp1:p≤a:=by omega
   have hp2:a<p+size:=by omega
   rw [←hp] at hP ⊢
   have hw1:IntKind.i64.wrap (p+size)=p+size:=IntWalk.i64_in _ (by omega)
   have hw2:IntKind.i64.wrap (min (p+size) end_ - a)=min (p+size) end_ - a:=IntWalk.i64_in _ (by omega)
   have HP:=Lib.hid hP
   clear h hz hL hp hm0 hm1 hP
   go_enter Tryz.func51,Tryz.ntmps51
   go_wp2_with fail
   go_quiet ((go_at_call 80;exact Calls.quiet_of ((HP.out _).mono fun _ _ hh=>⟨hh.1,0,hh.2.symm⟩)))
   go_wp2_with fail
   go_ret
   exact ⟨rfl,_,rfl⟩
end Go.Proofs.YtnemlgfldfedpaaGreatDoor
namespace Go.Proofs.YtnemlgfldfedpaaGreatDoor
open Go.RowKit Go.Deep
attribute [local go_sem] fr_opt
theorem part_text {w:World} {B cap:Nat} {cur:Array Value} {xs:List UInt8} {a k:Nat} (hg:w.heap[B]? = some (.cells cur 5 (0,0))) (h4:cur.toList.take xs.length=xs.map by8) (hk:a+k≤xs.length) :
 (convert 81 9 (.slice (some ⟨B,a,none⟩) k cap)).run Tryz.prog w = .ok (.string ⟨((xs.drop a).take k).toArray⟩) w:=by
 have hl:((xs.drop a).take k).length=k:=by rw [List.length_take,List.length_drop];omega
 have:=run_convert_bytes_back (P:=Tryz.prog) w 81 9 5 ⟨B,a,none⟩ cap ((xs.drop a).take k) Tryz.underlying81 Tryz.underlying5 Tryz.underlying9 (fun j hj=>by
  rw [hl] at hj
  rw [add_none]
  have e1:(cur.toList.take xs.length)[a+j]? = (xs.map by8)[a+j]?:=by rw [h4]
  rw [List.getElem?_take,if_pos (by omega),Array.getElem?_toList,List.getElem?_map,List.getElem?_eq_getElem (by omega)] at e1
  simp [World.cell?,hg,e1,by8])
 rw [hl] at this
 exact this
set_option maxRecDepth 100000 in
theorem dread_ok (g:Gh) (st:St) (nm:ByteArray) (f:FileM) (a k:Nat) (w:World) (h:DiskAt w g st) (hm:nm.size≤maxLen) (hq:st.down=false) (hf:st.find nm=some f) (hk:0<k) (ha:a+k≤f.bytes.length) (hl:f.bytes.length≤1099511627776) :
 Calls Tryz.prog 81 #[.pointer (some ⟨g.d,0,none⟩),.string nm,.int .i64 a,.int .i64 k] w fun e w'=>e = .returned (.tuple #[.string ⟨((f.bytes.drop a).take k).toArray⟩,.int .i64 0])∧Below w.heap.size w w':=by
 have hf':=h.find nm
 rw [hf] at hf'
 obtain ⟨e0,hg,rfl⟩:∃ e0,getE g.es nm=some e0∧e0.f=f:=by
  cases hx:getE g.es nm with
  | none=>rw [hx] at hf';cases hf'
  | some e0=>rw [hx] at hf';exact ⟨e0,rfl,Option.some.inj hf'⟩
 have HC:=Lib.hid (find_ok g st nm w h hm hq e0 hg)
 have HE:=Lib.hid (h.ents e0 (getE_mem hg).1)
 have hs:IntKind.i64.wrap ((e0.f.bytes.length:Int) - a)=(e0.f.bytes.length:Int) - a:=IntWalk.i64_in _ (by omega)
 have hp:IntKind.i64.wrap ((a:Int)+k)=(a:Int)+k:=IntWalk.i64_in _ (by omega)
 clear h hq hg hf hf'
 go_enter Tryz.func81,Tryz.ntmps81
 go_wp2_with (go_at_call 93;refine HC.out.mono ?_)
 rintro e w' ⟨rfl,hb⟩
 have hE:EntAt w' e0:=HE.out.chg (Chg.of_below (S:=fun _=>False) hb) (fun _ _ x=>x)
 have k1:=hE.cells.2.1
 rcases hE.bytes.form with ⟨_,h0⟩|⟨B,cap,cur,hv,hgB,hcap,hmax,hcs,htk⟩
 ·rw [h0] at ha;simp at ha;omega
 ·have hct:∀ c,_:=fun c=>part_text (cap:=c) hgB htk ha
  rw [hv] at k1
  unfold pk
  clear hE hv hgB htk hcs
  go_wp2_with fail
  go_ret2
  exact ⟨rfl,hb⟩
set_option maxHeartbeats 1000000 in
set_option maxRecDepth 100000 in
theorem rread_ok (w0:World) (b:Nat) (g:Gh) (st:St) (m:RowM) (a k u:Nat) (f:FileM) (w:World) (h:RowG w0 w b g st m) (hdn:st.down=false) (hb0:0≤m.begin_) (he:m.end_≤100000000) (hs1:16≤m.size) (hs2:m.size≤4096) (hh:m.head.size≤1048576)
 (hk:0<k) (h1:(k:Int)≤leftR m a) (hu:(u:Int)=(a:Int) - (a:Int) % m.size) (hf:st.find (nameB m.head u)=some f) (hfl:a - u+k≤f.bytes.length) (hfm:f.bytes.length≤1099511627776) :
 Calls Tryz.prog 44 #[.pointer (some ⟨b,0,none⟩),.int .i64 a,.int .i64 k] w fun e w'=>e = .returned (.tuple #[.string ⟨((f.bytes.drop (a - u)).take k).toArray⟩,.int .i64 0])∧Below w.heap.size w w':=by
 have hrange:m.begin_≤a∧(a:Int)<m.end_:=by
  by_cases hx:(a:Int)<m.begin_∨m.end_≤(a:Int)
  ·unfold leftR at h1
   rw [if_pos hx] at h1
   omega
  ·omega
 have hL:=rleft_any b g.d m a w h.row hb0 (by omega) hs1 hs2
 obtain ⟨l,hl⟩:∃ l,l=leftR m a:=⟨_,rfl⟩
 rw [←hl] at hL h1
 have hne:¬ m.size=0:=by omega
 have hm0:0≤(a:Int) % m.size:=Int.emod_nonneg _ hne
 have hm1:(a:Int) % m.size<m.size:=Int.emod_lt_of_pos _ (by omega)
 have hP:∀ W,RowG w0 W b g st m→Calls Tryz.prog 80 #[.pointer (some ⟨b,0,none⟩),.int .i64 a] W fun e w'=>e = .returned (.int .i64 u)∧W=w':=fun W hW=>by
  rw [hu]
  exact rplace_any b g.d m a W hW.row (by omega) (by omega) hs1 hs2
 have hN:∀ W,RowG w0 W b g st m→Calls Tryz.prog 55 #[.pointer (some ⟨b,0,none⟩),.int .i64 u] W fun e w'=>e = .returned (.string (nameB m.head u))∧Below W.heap.size W w':=fun W hW=>
  rname_any b g.d m W hW.row hW.tab u (by omega) (by omega)
 have hR:∀ W,RowG w0 W b g st m→Calls Tryz.prog 81 #[.pointer (some ⟨g.d,0,none⟩),.string (nameB m.head u),.int .i64 ((a:Int) - u),.int .i64 k] W fun e w'=>e = .returned (.tuple #[.string ⟨((f.bytes.drop (a - u)).take k).toArray⟩,.int .i64 0])∧Below W.heap.size W w':=fun W hW=>by
  have:=dread_ok g st (nameB m.head u) f (a - u) k W hW.disk (by rw [nameB_size];unfold maxLen;omega) hdn hf hk hfl hfm
  rwa [show ((a - u:Nat):Int)=(a:Int) - u by omega] at this
 obtain ⟨t,ht⟩:∃ t:ByteArray,t=⟨((f.bytes.drop (a - u)).take k).toArray⟩:=⟨_,rfl⟩
 rw [←ht] at hR ⊢
 have hw:IntKind.i64.wrap ((a:Int) - u)=(a:Int) - u:=IntWalk.i64_in _ (by omega)
 have hk0:¬ (k:Int)≤0:=by omega
 have hkb:((k:Int) == 0)=false:=by simp;omega
 have hlk:¬ l<(k:Int):=by omega
 obtain ⟨c0,c1,c2,c3,c4,c5,c6,c7,hz⟩:=h.row.cell
 have H:=Lib.hid h
 have HL:=Lib.hid hL
 have HP:=Lib.hid hP
 have HN:=Lib.hid hN
 have HR:=Lib.hid hR
 clear h hL hP hN hR hz c1 c2 c5 c6 c7 hf ht hu hl hm0 hm1 hfl hfm hdn
 go_enter Tryz.func44,Tryz.ntmps44
 go_wp2_with (go_at_call 51;refine HL.out.mono ?_;rintro e wx ⟨rfl,q,rfl⟩)
 go_wp2_with (go_at_call 80;refine (HP.out _ (H.out.drewN q)).mono ?_;rintro e wx ⟨rfl,rfl⟩)
 generalize hw1:w.drewN q=w1
 have hg1:RowG w0 w1 b g st m:=hw1▸H.out.drewN q
 have hb1:Below w.heap.size w w1:=hw1▸(⟨rfl,rfl,rfl,Nat.le_refl _,fun _ _=>rfl⟩:Below w.heap.size w (w.drewN q))
 have k0:=hg1.row.cell.1
 have HG1:=Lib.hid hg1
 have HB1:=Lib.hid hb1
 clear hg1 hb1 hw1 c0 c3 c4
 go_region_held3 (fun w'=>w'.cell? ⟨b,0,none⟩=some (.pointer (some ⟨g.d,0,none⟩)))
  (first|exact k0|go_keep)
  (first
   | (go_at_call 55
      ((with_reducible refine (HN.out _ ?_).mono ?_))
      ·repeat (first|exact HG1.out|with_reducible refine RowG.drew ?_|with_reducible refine RowG.drewN ?_ _)
      rintro e w8 ⟨rfl,hb8⟩
      have hg8:=HG1.out.drew.new (Chg.of_below (S:=fun _=>False) hb8)
      have k0:=hg8.row.cell.1
      have HG8:=Lib.hid hg8
      have HB8:=Lib.hid hb8
      clear hb8 hg8)
   | (go_at_call 81
      ((with_reducible refine (HR.out _ ?_).mono ?_))
      ·repeat (first|exact HG8.out|with_reducible refine RowG.drew ?_|with_reducible refine RowG.drewN ?_ _)
      rintro e w9 ⟨rfl,hb9⟩
      have hg9:=HG8.out.new (Chg.of_below (S:=fun _=>False) hb9)
      have k0:=hg9.row.cell.1
      have HB9:=Lib.hid hb9
      clear hb9 hg9))
 go_wp2_with fail
 go_ret2
 have d1:Below w.heap.size w w1.drew:=⟨HB1.out.os,HB1.out.tape,HB1.out.output,HB1.out.size,HB1.out.block⟩
 have d8:=d1.trans (HB8.out.mono d1.size)
 exact ⟨rfl,d8.trans (HB9.out.mono d8.size)⟩
end Go.Proofs.YtnemlgfldfedpaaGreatDoor
namespace Go.Proofs.YtnemlgfldfedpaaGreatDoor
open Go.RowKit Go.Deep
def valA (acc:Nat) (l:List UInt8):Nat:=l.foldl (fun a b=>a*10+(b.toNat - 48)) acc
theorem valA_lt:∀ (l1 l2:List UInt8),l1.length=l2.length→(∀ b∈l1,isDig b)→(∀ b∈l2,isDig b)→∀ a1 a2,a2<a1→valA a2 l2<valA a1 l1
 | [],[],_,_,_,a1,a2,h=>h
 | x :: l1,y :: l2,hl,h1,h2,a1,a2,h=>by
  have hx:=h1 x (List.mem_cons_self ..)
  have hy:=h2 y (List.mem_cons_self ..)
  have e1:valA a2 (y :: l2)=valA (a2*10+(y.toNat - 48)) l2:=rfl
  have e2:valA a1 (x :: l1)=valA (a1*10+(x.toNat - 48)) l1:=rfl
  rw [e1,e2]
  refine valA_lt l1 l2 (by simpa using hl) (fun b hb=>h1 b (List.mem_cons_of_mem _ hb)) (fun b hb=>h2 b (List.mem_cons_of_mem _ hb)) _ _ ?_
  unfold isDig at hx hy
  omega
theorem lex_val:∀ (l1 l2:List UInt8),l1.length=l2.length→(∀ b∈l1,isDig b)→(∀ b∈l2,isDig b)→∀ a,valA a l1≤valA a l2→l1≤l2
 | [],[],_,_,_,a,h=>List.le_refl _
 | x :: l1,y :: l2,hl,h1,h2,a,h=>by
  have hx:=h1 x (List.mem_cons_self ..)
  have hy:=h2 y (List.mem_cons_self ..)
  have h1':∀ b∈l1,isDig b:=fun b hb=>h1 b (List.mem_cons_of_mem _ hb)
  have h2':∀ b∈l2,isDig b:=fun b hb=>h2 b (List.mem_cons_of_mem _ hb)
  have hl':l1.length=l2.length:=by simpa using hl
  rw [List.cons_le_cons_iff]
  by_cases hlt:x<y
  ·exact .inl hlt
  ·by_cases he:x=y
   ·subst he
    exact .inr ⟨rfl,lex_val l1 l2 hl' h1' h2' _ h⟩
   ·exfalso
    have h3:y.toNat<x.toNat:=by
     have h4:¬ x.toNat<y.toNat:=fun h=>hlt (UInt8.lt_iff_toNat_lt.2 h)
     have h5:x.toNat≠y.toNat:=fun h=>he (UInt8.toNat_inj.1 h)
     omega
    have h6:valA (a*10+(y.toNat - 48)) l2<valA (a*10+(x.toNat - 48)) l1:=by
     refine valA_lt l1 l2 hl' h1' h2' _ _ ?_
     unfold isDig at hx hy
     omega
    have h7:valA (a*10+(x.toNat - 48)) l1≤valA (a*10+(y.toNat - 48)) l2:=h
    omega
theorem nameB_le (head:ByteArray) {u v:Nat} (hu:u≤99999999) (hv:v≤99999999) (h:u≤v):(nameB head u).data.toList≤(nameB head v).data.toList:=by
 rw [nameB_toList,nameB_toList]
 refine List.append_left_le (lex_val _ _ (by rw [dec8_length,dec8_length]) (dec8_dig u) (dec8_dig v) 0 ?_)
 have e:∀ l,valA 0 l=val8 l:=fun _=>rfl
 rw [e,e,val8_dec8 u (by omega),val8_dec8 v (by omega)]
 exact h
theorem nameB_inj (head:ByteArray) {u v:Nat} (hu:u≤99999999) (hv:v≤99999999) (h:nameB head u=nameB head v):u=v:=by
 have h1:=place_name head u hu
 rw [h,place_name head v hv] at h1
 exact (Option.some.inj h1).symm
theorem nameB_pre (head:ByteArray) (u:Nat):Lib.hasPrefix (nameB head u).data.toList head.data.toList=true:=by
 rw [nameB_toList]
 simp [Lib.hasPrefix]
theorem gathF_at (st:St) (x:RowM×Bool×List ByteArray) (u:Nat) (hu:u≤99999999) (head:ByteArray) (hh:x.1.head=head) :
 gathF st x (nameB head u)=((takeR x.1 x.2.1 u (st.len (nameB head u))).1,(takeR x.1 x.2.1 u (st.len (nameB head u))).2.1,if (takeR x.1 x.2.1 u (st.len (nameB head u))).2.2=true then x.2.2 else x.2.2 ++ [nameB head u]):=by
 unfold gathF
 rw [hh,place_name head u hu]
def Chunks:List FileM→List UInt8→Prop
 | [],all=>all=[]
 | f :: fl,all=>f.bytes=all.take 16∧all≠[]∧Chunks fl (all.drop 16)
theorem Chunks.nil {l:List FileM} (h:Chunks l []):l=[]:=by
 cases l with
 | nil=>rfl
 | cons f l=>exact absurd rfl h.2.1
theorem putB_end (b s:List UInt8):putB b b.length s=b ++ s:=by
 unfold putB
 split
 ·rename_i h;rw [h,List.append_nil]
 ·have h1:(b ++ List.replicate (b.length+s.length - b.length) 0).take b.length=b:=by
   rw [List.take_append_of_le_length (Nat.le_refl _),List.take_length]
  have h2:(b ++ List.replicate (b.length+s.length - b.length) (0:UInt8)).drop (b.length+s.length)=[]:=by
   refine List.drop_eq_nil_of_le ?_
   rw [List.length_append,List.length_replicate]
   omega
  rw [h1,h2,List.append_nil]
structure AppF (f:FileM):Prop where
 img:f.image=f.bytes.take f.image.length
 wr:∀ x∈f.writes,f.image.length≤x.at_∧∀ k,k<x.s.size→x.s.data.toList[k]? = f.bytes[x.at_+k]?
theorem AppF.empty:AppF emptyF:=⟨rfl,fun x hx=>by cases hx⟩
theorem size_toList (s:ByteArray):s.data.toList.length=s.size:=by rw [Array.length_toList];rfl
theorem putB_get (b:List UInt8) (a:Nat) (s:List UInt8) (hs:s≠[]) (j:Nat):(putB b a s)[j]? = if j<a then (if j<b.length then b[j]? else some 0) else if j<a+s.length then s[j - a]? else b[j]?:=by
 have hp:=List.length_pos_iff.2 hs
 unfold putB
 rw [if_neg hs]
 obtain ⟨z,hz⟩:∃ z,z=b ++ List.replicate (a+s.length - b.length) (0:UInt8):=⟨_,rfl⟩
 have hzl:z.length=b.length+(a+s.length - b.length):=by rw [hz,List.length_append,List.length_replicate]
 have hzg:∀ k,k<z.length→z[k]? = if k<b.length then b[k]? else some 0:=fun k hk=>by
  rw [hz]
  by_cases hb:k<b.length
  ·rw [if_pos hb,List.getElem?_append_left hb]
  ·rw [if_neg hb,List.getElem?_append_right (by omega),List.getElem?_replicate,if_pos (by omega)]
 rw [←hz]
 have ht:(z.take a).length=a:=by rw [List.length_take];omega
 by_cases h1:j<a
 ·rw [if_pos h1,List.append_assoc,List.getElem?_append_left (by omega),List.getElem?_take_of_lt h1,hzg j (by omega)]
 ·rw [if_neg h1]
  by_cases h2:j<a+s.length
  ·rw [if_pos h2,List.append_assoc,List.getElem?_append_right (by omega),ht,List.getElem?_append_left (by omega)]
  ·rw [if_neg h2,List.getElem?_append_right (by rw [List.length_append];omega),List.length_append,ht,List.getElem?_drop]
   rw [show a+s.length+(j - (a+s.length))=j by omega]
   by_cases h3:j<z.length
   ·rw [hzg j h3,if_pos (by omega)]
   ·rw [List.getElem?_eq_none (by omega),List.getElem?_eq_none (by omega)]
structure Like (i0:Nat) (bs c:List UInt8):Prop where
 low:i0≤c.length
 high:c.length≤bs.length
 get:∀ j,j<c.length→c[j]? = bs[j]?∨(i0≤j∧c[j]? = some 0)
theorem Like.refl {i0:Nat} {bs:List UInt8} (h:i0≤bs.length):Like i0 bs bs:=⟨h,Nat.le_refl _,fun _ _=>.inl rfl⟩
theorem imgs_map (l:List Sk) (d:List WaitM):imgs l d=l.map fun p=>d.foldl (fun q z=>img1 z q) p:=by
 unfold imgs
 induction d generalizing l with
 | nil=>exact (List.map_id l).symm
 | cons z d ih=>
  rw [List.foldl_cons,ih]
  unfold img
  rw [List.map_map]
  rfl
theorem lose_nil (f:FileM):(loseF f).writes=[]:=by
 unfold loseF
 split
 ·rename_i h;exact h
 ·rfl
theorem find_drop {fs:List (ByteArray×FileM)} {a b:ByteArray} (hab:a≠b):(dropF fs b).find? (fun p=>decide (p.1=a))=fs.find? (fun p=>decide (p.1=a)):=by
 unfold dropF
 induction fs with
 | nil=>rfl
 | cons p fs ih=>
  rw [List.filter_cons]
  by_cases hb:p.1=b
  ·rw [if_neg (by simp [hb]),ih,List.find?_cons_of_neg (by simp [hb,Ne.symm hab])]
  ·rw [if_pos (by simp [hb]),List.find?_cons,List.find?_cons,ih]
theorem find_deleteAll {st:St} {a:ByteArray} {ts:List ByteArray} (h:a∉ts):(deleteAll st ts).find a=st.find a:=by
 unfold deleteAll
 induction ts generalizing st with
 | nil=>rfl
 | cons t ts ih=>
  rw [List.mem_cons,not_or] at h
  rw [List.foldl_cons,ih h.2]
  unfold St.find removeS
  simp only
  rw [find_drop h.1]
attribute [local go_sem] fr_opt
structure DiskG (w0 w:World) (d:Nat) (g:Gh) (st:St):Prop where
 disk:DiskAt w g st
 d:g.d=d
 chg:Chg (fun _=>False) w0 w
 low:∀ k∈g.fp,w0.heap.size≤k
theorem DiskG.of {w0 w:World} {b d:Nat} {g:Gh} {st:St} {m:RowM} (h:RowG w0 w b g st m) (hd:g.d=d):DiskG w0 w d g st:=⟨h.disk,hd,h.chg,h.low⟩
theorem sum_len_le2 {n:Nat} {fs:List (ByteArray×FileM)} (h:∀ p∈fs,GoodF n p.2):(fs.map fun p=>p.2.writes.length).sum≤fs.length*n:=by
 induction fs with
 | nil=>simp
 | cons p l ih=>
  have h1:=ih fun q hq=>h q (List.mem_cons_of_mem _ hq)
  have h2:=(h p (List.mem_cons_self ..)).count
  rw [List.map_cons,List.sum_cons,List.length_cons,Nat.succ_mul]
  omega
theorem Good.waitsN {n:Nat} {st:St} (h:Good n st) (hn:n≤1048576):st.waits≤1099511627776:=by
 have h1:=sum_len_le2 h.files
 have h2:st.fs.length*n≤1048576*1048576:=Nat.mul_le_mul (Nat.le_trans h.len hn) hn
 exact Nat.le_trans h1 (Nat.le_trans h2 (by decide))
end Go.Proofs.YtnemlgfldfedpaaGreatDoor
