/- A part. -/
import Derived.Test.YtnemlgfldfedpaaGreatDoorTcr29
set_option linter.unusedVariables false
set_option linter.unusedSimpArgs false
namespace Go.Proofs.YtnemlgfldfedpaaGreatDoor
open Go.RowKit Go.Deep
structure GoodF (n:Nat) (f:FileM):Prop where
 bytes:f.bytes=putAll f.image f.writes
 image:f.image.length≤f.bytes.length
 writes:∀ x∈f.writes,x.at_+x.s.size≤f.bytes.length
 count:f.writes.length≤n
def sumB (fs:List (ByteArray×FileM)):Nat:=(fs.map fun p=>p.2.bytes.length).sum
structure Good (n:Nat) (st:St):Prop where
 fuse:FuseOk st
 cap:st.cap≤16777216
 size:st.size≤st.cap
 sum:st.size=sumB st.fs
 names:(st.fs.map (·.1)).Nodup
 turn:st.turn≤n
 len:st.fs.length≤n
 files:∀ p∈st.fs,GoodF n p.2
theorem GoodF.more {n m:Nat} {f:FileM} (h:GoodF n f) (hm:n≤m):GoodF m f:=⟨h.bytes,h.image,h.writes,Nat.le_trans h.count hm⟩
theorem Good.more {n m:Nat} {st:St} (h:Good n st) (hm:n≤m):Good m st:=
 ⟨h.fuse,h.cap,h.size,h.sum,h.names,Nat.le_trans h.turn hm,Nat.le_trans h.len hm,fun p hp=>(h.files p hp).more hm⟩
theorem Good.sizeOk {n:Nat} {st:St} (h:Good n st):SizeOk st:=⟨h.sum,h.names⟩
theorem mem_sumB {fs:List (ByteArray×FileM)} {p:ByteArray×FileM} (h:p∈fs):p.2.bytes.length≤sumB fs:=by
 obtain ⟨l1,l2,rfl⟩:=List.append_of_mem h
 unfold sumB
 simp only [List.map_append,List.map_cons,List.sum_append_nat,List.sum_cons]
 omega
theorem Good.within {n:Nat} {st:St} (h:Good n st) (hn:n≤1073741824) {p:ByteArray×FileM} (hp:p∈st.fs):Within p.2 1073741824:=by
 have h1:=mem_sumB hp
 have h2:=h.sum
 have h3:=h.size
 have h4:=h.cap
 have hf:=h.files p hp
 have h5:=hf.image
 have h6:=hf.count
 refine ⟨by omega,by omega,by omega,fun x hx=>?_⟩
 have:=hf.writes x hx
 omega
theorem Good.allIn {n:Nat} {st:St} (h:Good n st) (hn:n≤1073741824):AllIn st 1099511627776:=fun p hp=>by
 obtain ⟨h1,h2,h3,h4⟩:=h.within hn hp
 refine ⟨by omega,by omega,by omega,fun x hx=>?_⟩
 have:=h4 x hx
 omega
theorem Good.new (c:Int):Good 0 (newSt c):=by
 refine ⟨⟨fun h=>(by cases h),(by show (0:Int)≤_;omega)⟩,?_,Nat.zero_le _,rfl,List.nodup_nil,Nat.le_refl _,Nat.le_refl _,fun p hp=>(by cases hp)⟩
 show (min (max c 0) 16777216).toNat≤16777216
 omega
theorem FuseOk.burn {st:St} (h:FuseOk st):FuseOk (burnS st):=by
 unfold burnS
 split
 ·rename_i h1
  split
  ·exact h
  ·rename_i h2
   have h3:=h.1 h1
   have h4:=h.2
   refine ⟨fun _=>?_,?_⟩
   ·show 0≤st.left - 1
    omega
   ·show st.left - 1≤_
    omega
 ·exact h
theorem Good.burn {n:Nat} {st:St} (h:Good n st):Good n (burnS st):=by
 refine ⟨h.fuse.burn,?_,?_,?_,?_,?_,?_,?_⟩
 ·rw [burnS_cap];exact h.cap
 ·rw [burnS_cap,burnS_size];exact h.size
 ·rw [burnS_fs,burnS_size];exact h.sum
 ·rw [burnS_fs];exact h.names
 ·rw [burnS_turn];exact h.turn
 ·rw [burnS_fs];exact h.len
 ·rw [burnS_fs];exact h.files
theorem goodF_empty (n:Nat):GoodF n emptyF:=⟨rfl,Nat.le_refl _,fun x hx=>(by cases hx),Nat.zero_le _⟩
theorem find_none {fs:List (ByteArray×FileM)} {nm:ByteArray} (h:¬ (((fs.find? fun p=>decide (p.1=nm)).map (·.2)).isSome=true)):nm∉fs.map (·.1):=fun hx=>by
 obtain ⟨p,hp,rfl⟩:=List.mem_map.1 hx
 apply h
 rw [Option.isSome_map,List.find?_isSome]
 exact ⟨p,hp,by simp⟩
theorem Good.create {n:Nat} {st:St} (h:Good n st) (nm:ByteArray):Good (n+1) (createS st nm):=by
 unfold createS
 split
 ·exact h.more (Nat.le_succ _)
 ·split
  ·exact h.more (Nat.le_succ _)
  ·rename_i hf
   split
   ·have hb:=h.burn
    refine ⟨hb.fuse,hb.cap,hb.size,?_,?_,Nat.le_succ_of_le hb.turn,?_,?_⟩
    ·show (burnS st).size=sumB (st.fs ++ [(nm,emptyF)])
     rw [burnS_size,h.sum]
     unfold sumB
     simp [emptyF]
    ·show ((st.fs ++ [(nm,emptyF)]).map (·.1)).Nodup
     rw [List.map_append,List.nodup_append]
     refine ⟨h.names,by simp,fun a ha b hb' hab=>?_⟩
     simp at hb'
     subst hb'
     subst hab
     exact find_none hf ha
    ·show (st.fs ++ [(nm,emptyF)]).length≤n+1
     rw [List.length_append]
     have:=h.len
     simp;omega
    ·intro p hp
     rcases List.mem_append.1 hp with h1|h1
     ·exact (h.files p h1).more (Nat.le_succ _)
     ·simp at h1;subst h1;exact goodF_empty _
   ·exact h.burn.more (Nat.le_succ _)
theorem setF_none {fs:List (ByteArray×FileM)} {nm:ByteArray} (f:FileM) (h:nm∉fs.map (·.1)):setF fs nm f=fs:=by
 unfold setF
 refine (List.map_congr_left fun p hp=>?_).trans (List.map_id _)
 exact if_neg fun (e:p.1=nm)=>h (e▸List.mem_map_of_mem hp)
theorem sumB_cons (p:ByteArray×FileM) (l:List (ByteArray×FileM)):sumB (p :: l)=p.2.bytes.length+sumB l:=rfl
theorem sumB_setF {fs:List (ByteArray×FileM)} {nm:ByteArray} {f:FileM} (f':FileM) (hn:(fs.map (·.1)).Nodup) (hf:(fs.find? fun p=>decide (p.1=nm)).map (·.2)=some f) :
 sumB (setF fs nm f')+f.bytes.length=sumB fs+f'.bytes.length:=by
 induction fs with
 | nil=>cases hf
 | cons p l ih=>
  rw [List.map_cons,List.nodup_cons] at hn
  by_cases hp:p.1=nm
  ·rw [List.find?_cons_of_pos (by simp [hp])] at hf
   obtain rfl:p.2=f:=Option.some.inj hf
   have h1:setF (p :: l) nm f'=(nm,f') :: setF l nm f':=by unfold setF;rw [List.map_cons,if_pos hp]
   rw [h1,setF_none f' (hp▸hn.1),sumB_cons,sumB_cons]
   show f'.bytes.length+sumB l+p.2.bytes.length=p.2.bytes.length+sumB l+f'.bytes.length
   omega
  ·rw [List.find?_cons_of_neg (by simp [hp])] at hf
   have h1:setF (p :: l) nm f'=p :: setF l nm f':=by unfold setF;rw [List.map_cons,if_neg hp]
   have:=ih hn.2 hf
   rw [h1,sumB_cons,sumB_cons]
   omega
theorem mem_setF {fs:List (ByteArray×FileM)} {nm:ByteArray} {f:FileM} {p:ByteArray×FileM} (h:p∈setF fs nm f):p∈fs∨p=(nm,f):=by
 obtain ⟨q,hq,rfl⟩:=List.mem_map.1 h
 by_cases hp:q.1=nm
 ·exact .inr (if_pos hp)
 ·rw [if_neg hp];exact .inl hq
theorem Good.set {n m:Nat} {st:St} (h:Good n st) (hm:n≤m) {nm:ByteArray} {f f':FileM} (hf:st.find nm=some f) (hg:GoodF m f') (k t:Nat) (hk:k+f.bytes.length=st.size+f'.bytes.length) (hc:k≤st.cap) (ht:t≤m) :
 Good m { st with size:=k,turn:=t,fs:=setF st.fs nm f' }:=by
 refine ⟨h.fuse,h.cap,hc,?_,?_,ht,?_,?_⟩
 ·show k=sumB (setF st.fs nm f')
  have:=sumB_setF f' h.names hf
  have:=h.sum
  omega
 ·show ((setF st.fs nm f').map (·.1)).Nodup
  rw [names_setF];exact h.names
 ·show (setF st.fs nm f').length≤m
  unfold setF
  rw [List.length_map]
  exact Nat.le_trans h.len hm
 ·intro p hp
  rcases mem_setF hp with h1|rfl
  ·exact (h.files p h1).more hm
  ·exact hg
theorem Good.file {n:Nat} {st:St} (h:Good n st) {nm:ByteArray} {f:FileM} (hf:st.find nm=some f):GoodF n f:=h.files _ (find_mem hf)
theorem text_len (s:ByteArray):s.data.toList.length=s.size:=by rw [Array.length_toList];rfl
theorem putB_size (b:List UInt8) (a:Nat) (s:ByteArray) (hs:s.size≠0):(putB b a s.data.toList).length=max b.length (a+s.size):=by
 rw [putB_length _ _ _ (fun e=>hs (by rw [←text_len,e];rfl)),text_len]
theorem GoodF.add {n:Nat} {f:FileM} (h:GoodF n f) (x:WriteM) (hx:x.s.size≠0):GoodF (n+1) (addF f x):=by
 have hl:=putB_size f.bytes x.at_ x.s hx
 refine ⟨?_,?_,?_,?_⟩
 ·show putB f.bytes _ _=putAll f.image (f.writes ++ [x])
  rw [putAll_snoc,←h.bytes]
 ·show f.image.length≤(putB f.bytes _ _).length
  have:=h.image
  omega
 ·intro y hy
  show _≤(putB f.bytes _ _).length
  rcases List.mem_append.1 hy with h1|h1
  ·have:=h.writes y h1
   omega
  ·simp at h1;subst h1;omega
 ·show (f.writes ++ [x]).length≤n+1
  have:=h.count
  simp;omega
theorem GoodF.sync {n:Nat} {f:FileM} (h:GoodF n f):GoodF n (syncF f):=by
 refine ⟨h.bytes,?_,fun x hx=>(by cases hx),Nat.zero_le _⟩
 show (putAll f.image f.writes).length≤f.bytes.length
 rw [←h.bytes]
 exact Nat.le_refl _
theorem GoodF.cut {n:Nat} {f:FileM} (h:GoodF n f) (k:Nat):GoodF n (cutF f k):=by
 refine ⟨?_,?_,fun x hx=>(by cases hx),Nat.zero_le _⟩
 ·show f.bytes.take k=(putAll f.image f.writes).take k
  rw [←h.bytes]
 ·show ((putAll f.image f.writes).take k).length≤(f.bytes.take k).length
  rw [←h.bytes]
  exact Nat.le_refl _
theorem burn_find (st:St) (nm:ByteArray):(burnS st).find nm=st.find nm:=by unfold St.find;rw [burnS_fs]
theorem Good.write {n:Nat} {st:St} (h:Good n st) (nm:ByteArray) (a:Int) (s:ByteArray):Good (n+1) (writeS st nm a s):=by
 have h0:=h.more (Nat.le_succ n)
 have hb:=h0.burn
 unfold writeS
 split
 ·exact h0
 ·split
  ·exact h0
  ·rename_i f hf
   split
   ·exact h0
   ·split
    ·exact h0
    ·rename_i hr
     split
     ·split
      ·exact hb
      ·rename_i hs
       have hl:=putB_size f.bytes a.toNat s hs
       have hlen:(addF f ⟨(st.turn:Int)+1,a.toNat,s⟩).bytes.length=(putB f.bytes a.toNat s.data.toList).length:=rfl
       have h1:=h.size
       unfold Go.Proofs.YtnemlgfldfedpaaGreatDoor.more at hr ⊢
       rw [←burnS_fs st]
       refine h.burn.set (Nat.le_succ n) (f:=f) (by rw [burn_find];exact hf) ((h.file hf).add _ hs) _ _ ?_ ?_ ?_
       ·rw [burnS_size,hlen];omega
       ·rw [burnS_cap];omega
       ·exact Nat.succ_le_succ h.turn
     ·exact hb
theorem Good.sync1 {n:Nat} {st:St} (h:Good n st) (nm:ByteArray):Good n (sync1 st nm):=by
 unfold Go.Proofs.YtnemlgfldfedpaaGreatDoor.sync1
 split
 ·exact h
 ·rename_i f hf
  exact h.set (Nat.le_refl n) hf (h.file hf).sync st.size st.turn rfl h.size h.turn
theorem Good.syncAll {n:Nat} {st:St} (h:Good n st) (ts:List ByteArray):Good n (syncAll st ts):=by
 unfold Go.Proofs.YtnemlgfldfedpaaGreatDoor.syncAll
 induction ts generalizing st with
 | nil=>exact h
 | cons t ts ih=>exact ih (h.sync1 t)
theorem Good.cut {n:Nat} {st:St} (h:Good n st) (nm:ByteArray) (k:Int):Good n (cutS st nm k):=by
 unfold cutS
 split
 ·exact h
 ·split
  ·exact h
  ·rename_i f hf
   split
   ·exact h
   ·rename_i hk
    split
    ·have hlen:(cutF f k.toNat).bytes.length=min k.toNat f.bytes.length:=by show (f.bytes.take _).length=_;rw [List.length_take]
     have h1:=h.size
     have h2:=h.sum
     have h3:=mem_sumB (find_mem hf)
     simp only at h3
     rw [←burnS_fs st]
     refine h.burn.set (Nat.le_refl n) (f:=f) (by rw [burn_find];exact hf) ((h.file hf).cut _) _ _ ?_ ?_ h.burn.turn
     ·rw [burnS_size,hlen];omega
     ·rw [burnS_cap];omega
    ·exact h.burn
theorem sumB_dropF {fs:List (ByteArray×FileM)} (hn:(fs.map (·.1)).Nodup) (nm:ByteArray):sumB (dropF fs nm)+lenF fs nm=sumB fs:=len_split hn nm
theorem names_dropF (fs:List (ByteArray×FileM)) (nm:ByteArray) (hn:(fs.map (·.1)).Nodup):((dropF fs nm).map (·.1)).Nodup∧nm∉(dropF fs nm).map (·.1):=by
 refine ⟨?_,fun hx=>?_⟩
 ·unfold dropF
  exact List.Nodup.sublist ((List.filter_sublist).map _) hn
 ·obtain ⟨p,hp,rfl⟩:=List.mem_map.1 hx
  have:=(List.mem_filter.1 hp).2
  simp at this
theorem Good.remove {n:Nat} {st:St} (h:Good n st) (nm:ByteArray):Good n (removeS st nm):=by
 have h1:=sumB_dropF h.names nm
 have h2:=h.sum
 have h3:=h.size
 refine ⟨h.fuse,h.cap,?_,?_,(names_dropF _ nm h.names).1,h.turn,?_,fun p hp=>h.files p (List.mem_filter.1 hp).1⟩
 ·show st.size - st.len nm≤st.cap
  omega
 ·show st.size - st.len nm=sumB (dropF st.fs nm)
  rw [len_eq];omega
 ·exact Nat.le_trans (List.length_filter_le _ _) h.len
theorem Good.deleteAll {n:Nat} {st:St} (h:Good n st) (ts:List ByteArray):Good n (deleteAll st ts):=by
 unfold Go.Proofs.YtnemlgfldfedpaaGreatDoor.deleteAll
 induction ts generalizing st with
 | nil=>exact h
 | cons t ts ih=>exact ih (h.remove t)
theorem Good.fuseS {n:Nat} {st:St} (h:Good n st) (k:Int) (hk:k≤9223372036854775807):Good n (fuseS st k):=
 ⟨⟨fun hl=>by have:decide (0≤k)=true:=hl;show 0≤k;simpa using this,hk⟩,h.cap,h.size,h.sum,h.names,h.turn,h.len,h.files⟩
def sk3 (p:Sk):ByteArray×Nat×List UInt8×List WriteM:=(p.1,p.2.1,p.2.2.bytes,p.2.2.writes)
theorem sk3_img1 (z:WaitM) (p:Sk):sk3 (img1 z p)=sk3 p:=by unfold img1;split<;>rfl
theorem sk3_imgs (l:List Sk) (d:List WaitM):(imgs l d).map sk3=l.map sk3:=by
 unfold imgs
 induction d generalizing l with
 | nil=>rfl
 | cons z d ih=>
  rw [List.foldl_cons,ih]
  unfold img
  rw [List.map_map]
  exact List.map_congr_left fun p _=>sk3_img1 z p
def SkImg (l:List Sk):Prop:=∀ p∈l,p.2.2.image.length≤p.2.2.bytes.length∧(p.2.2.writes=[]→p.2.2.image=p.2.2.bytes)
def SkFits (l:List Sk) (z:WaitM):Prop:=∀ p∈l,p.2.1=z.to_→z.x.at_+z.x.s.size≤p.2.2.bytes.length∧p.2.2.writes≠[]
theorem SkFits.img {l:List Sk} {y z:WaitM} (h:SkFits l z):SkFits (img l y) z:=by
 intro p hp hz
 obtain ⟨q,hq,rfl⟩:=List.mem_map.1 hp
 have h1:=sk3_img1 y q
 unfold sk3 at h1
 simp only [Prod.mk.injEq] at h1
 obtain ⟨_,h2,h3,h4⟩:=h1
 rw [h3,h4]
 exact h q hq (h2▸hz)
theorem SkImg.img {l:List Sk} {z:WaitM} (h:SkImg l) (hz:SkFits l z):SkImg (img l z):=by
 intro p hp
 obtain ⟨q,hq,rfl⟩:=List.mem_map.1 hp
 by_cases hb:q.2.1=z.to_
 ·rw [img1_eq hb]
  obtain ⟨h1,h2⟩:=hz q hq hb
  refine ⟨?_,fun hw=>absurd hw h2⟩
  show (putB q.2.2.image z.x.at_ z.x.s.data.toList).length≤q.2.2.bytes.length
  have h3:=(h q hq).1
  by_cases hs:z.x.s.size=0
  ·have:z.x.s.data.toList=[]:=List.length_eq_zero_iff.1 (by rw [text_len,hs])
   rw [this,putB_nil]
   exact h3
  ·rw [putB_size _ _ _ hs]
   omega
 ·rw [img1_ne hb]
  exact h q hq
theorem SkImg.imgs {l:List Sk} {d:List WaitM} (h:SkImg l) (hz:∀ z∈d,SkFits l z):SkImg (imgs l d):=by
 unfold Go.Proofs.YtnemlgfldfedpaaGreatDoor.imgs
 induction d generalizing l with
 | nil=>exact h
 | cons z d ih=>
  rw [List.foldl_cons]
  exact ih (h.img (hz z (List.mem_cons_self ..))) (fun y hy=>(hz y (List.mem_cons_of_mem _ hy)).img)
theorem sk_img {n:Nat} {w:World} {g:Gh} {st:St} {l:List WaitM} (bs:List Bool) (lack:Int) (h:DiskAt w g st) (hg:Good n st) (hp:l.Perm (waitsOf g.es)):SkImg (imgs (g.es.map skel) (cutLast (keepL l bs) lack)):=by
 have hf:∀ e∈g.es,GoodF n e.f:=fun e he=>hg.files (nf e) (by rw [←h.fs];exact List.mem_map_of_mem he)
 refine SkImg.imgs ?_ ?_
 ·intro p hp
  obtain ⟨e,he,rfl⟩:=List.mem_map.1 hp
  refine ⟨(hf e he).image,fun hw=>?_⟩
  have h1:=(hf e he).bytes
  have h2:e.f.writes=[]:=hw
  rw [h2] at h1
  exact h1.symm
 ·intro z hz p hpm hb
  obtain ⟨y,hy,h1,h2,h3⟩:=keep_sub hz
  obtain ⟨e,he,h4,h5⟩:=waits_mem (hp.mem_iff.1 hy)
  obtain ⟨e',he',rfl⟩:=List.mem_map.1 hpm
  have h6:e'.blk=e.blk:=by rw [h4,h1];exact hb
  obtain rfl:=blk_one h he' he h6
  have h7:=(hf e' he').writes y.x h5
  refine ⟨?_,List.ne_nil_of_mem h5⟩
  show z.x.at_+z.x.s.size≤e'.f.bytes.length
  omega
theorem lose_le {p:Sk} (h:p.2.2.image.length≤p.2.2.bytes.length):(loseF p.2.2).bytes.length≤p.2.2.bytes.length:=by
 unfold loseF
 split
 ·exact Nat.le_refl _
 ·exact h
theorem sum_lose {l:List Sk} (h:SkImg l):(l.map fun p=>(loseF p.2.2).bytes.length).sum≤(l.map fun p=>p.2.2.bytes.length).sum:=by
 induction l with
 | nil=>exact Nat.le_refl _
 | cons p l ih=>
  rw [List.map_cons,List.map_cons,List.sum_cons,List.sum_cons]
  exact Nat.add_le_add (lose_le (h p (List.mem_cons_self ..)).1) (ih fun q hq=>h q (List.mem_cons_of_mem _ hq))
theorem sk_sum {w:World} {g:Gh} {st:St} (h:DiskAt w g st) (d:List WaitM):((imgs (g.es.map skel) d).map fun p=>p.2.2.bytes.length).sum=sumB st.fs:=by
 have h1:=congrArg (fun l=>(l.map fun q:ByteArray×Nat×List UInt8×List WriteM=>q.2.2.1.length).sum) (sk3_imgs (g.es.map skel) d)
 simp only [List.map_map] at h1
 unfold sumB
 rw [←h.fs,List.map_map]
 exact h1
theorem sk_names {w:World} {g:Gh} {st:St} (h:DiskAt w g st) (d:List WaitM):(imgs (g.es.map skel) d).map (fun p=>p.1)=st.fs.map (·.1):=by
 have h1:=congrArg (fun l=>l.map fun q:ByteArray×Nat×List UInt8×List WriteM=>q.1) (sk3_imgs (g.es.map skel) d)
 simp only [List.map_map] at h1
 rw [←h.fs,List.map_map]
 exact h1
theorem Good.crash {n:Nat} {w:World} {g:Gh} {st:St} {l:List WaitM} (bs:List Bool) (lack:Int) (h:DiskAt w g st) (hg:Good n st) (hp:l.Perm (waitsOf g.es)):Good n (crashS st (imgs (g.es.map skel) (cutLast (keepL l bs) lack))):=by
 have hi:=sk_img bs lack h hg hp
 have hs:=sk_sum h (cutLast (keepL l bs) lack)
 have hn:=sk_names h (cutLast (keepL l bs) lack)
 generalize imgs (g.es.map skel) (cutLast (keepL l bs) lack)=sk at hi hs hn
 have h1:=sum_lose hi
 have h2:=hg.sum
 have h3:=hg.size
 refine ⟨⟨fun x=>(by cases x),(by show (0:Int)≤_;omega)⟩,hg.cap,?_,?_,?_,hg.turn,?_,?_⟩
 ·show (sk.map fun p=>(loseF p.2.2).bytes.length).sum≤st.cap
  omega
 ·show _=sumB (sk.map fun p=>(p.1,loseF p.2.2))
  unfold sumB
  rw [List.map_map]
  rfl
 ·show ((sk.map fun p=>(p.1,loseF p.2.2)).map (·.1)).Nodup
  rw [List.map_map]
  exact hn▸hg.names
 ·show (sk.map fun p=>(p.1,loseF p.2.2)).length≤n
  have:=congrArg List.length hn
  rw [List.length_map,List.length_map] at this
  rw [List.length_map,this]
  exact hg.len
 ·intro p hp
  obtain ⟨q,hq,rfl⟩:=List.mem_map.1 hp
  obtain ⟨h4,h5⟩:=hi q hq
  show GoodF n (loseF q.2.2)
  unfold loseF
  split
  ·rename_i hw
   exact ⟨(by rw [hw,←h5 hw];rfl),h4,fun x hx=>(by rw [hw] at hx;cases hx),(by rw [hw];exact Nat.zero_le _)⟩
  ·exact ⟨rfl,Nat.le_refl _,fun x hx=>(by cases hx),Nat.zero_le _⟩
end Go.Proofs.YtnemlgfldfedpaaGreatDoor
