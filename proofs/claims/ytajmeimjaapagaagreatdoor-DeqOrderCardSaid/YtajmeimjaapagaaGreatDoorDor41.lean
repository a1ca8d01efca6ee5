/- A part. -/
import Derived.Sort.OwnSorted
import Derived.Test.YtajmeimjaapagaaGreatDoorDor22
import Derived.Test.YtajmeimjaapagaaGreatDoorDor34
set_option linter.unusedVariables false
set_option linter.unusedSimpArgs false
namespace Go.Proofs.YtajmeimjaapagaaGreatDoor
open Go.RowKit Go.Deep
def begins (head:ByteArray) (l:List Ent):List (List UInt8):=(l.filter fun e=>Lib.hasPrefix e.name.data.toList head.data.toList).map fun e=>e.name.data.toList
theorem begins_snoc (head:ByteArray) (l:List Ent) (e:Ent):begins head (l ++ [e])=begins head l ++ (if Lib.hasPrefix e.name.data.toList head.data.toList=true then [e.name.data.toList] else []):=by
 unfold begins
 rw [List.filter_append,List.map_append]
 congr 1
 rw [List.filter_cons]
 split<;>rfl
def ListTo (g:Gh) (head:ByteArray) (w:World) (e:Ending) (w':World):Prop:=
 ∃ v vis,e = .returned v∧vis.Perm g.es∧w'.ownsRow w.heap.size 9 1 v (begins head vis).length (((begins head vis).mergeSort fun x y=>decide (x≤y)).map encStr)∧Below w.heap.size w w'
theorem info_str:(Tryz.prog.info? 9).map (fun i=>(i.zero,i.size,i.bytes))=some (some (.string ⟨#[]⟩),1,16):=by kernel_rfl
theorem encStr_name (nm:ByteArray):encStr nm.data.toList = .string nm:=by
 show Value.string ⟨nm.data.toList.toArray⟩=_
 rw [Array.toArray_toList]
theorem RangeIn.grown {w w':World} {m r base:Nat} {es vis rem:List Ent} {cnt:Nat} {v:Value} {e:TypeId} {sz n:Nat} {xs:List Value} (h:RangeIn w (some m) r es vis rem cnt) (ho:w.ownsRow base e sz v n xs) (hg:w.grownBy w' v.ownBlock) (h1:m<base) (h2:r<base):RangeIn w' (some m) r es vis rem cnt:=by
 refine h.kept (Chg.of_grown (S:=fun k=>some k=v.ownBlock) hg (fun k hk _=>hk.symm)) (fun hx=>?_) (fun hx=>?_)
 ·have:=(ho.lt m hx.symm).1;omega
 ·have:=(ho.lt r hx.symm).1;omega
set_option maxHeartbeats 600000 in
set_option maxRecDepth 100000 in
theorem list_any (g:Gh) (st:St) (head:ByteArray) (w:World) (h:DiskAt w g st) (hn:st.fs.length≤1099511627776) :
 Calls Tryz.prog 110 #[.pointer (some ⟨g.d,0,none⟩),.string head] w (ListTo g head w):=by
 have c6:=h.cells.2.2.2.2.2.2.1
 have HG:=Lib.hid h
 have hle:g.es.length≤1099511627776:=by
  have h1:=congrArg List.length h.fs
  rw [List.length_map] at h1
  omega
 have HLE:=Lib.hid hle
 obtain ⟨i0,hi,hz0,hz1,hz2⟩:=info_parts info_str
 obtain ⟨R,hR⟩:∃ R,R=w.heap.size:=⟨_,rfl⟩
 have HR:=Lib.hid hR
 have hmR:∀ m,g.mb=some m→m<R:=fun m hm=>by rw [hR];exact h.lt m (mem_fp_mb g hm)
 have HMR:=Lib.hid hmR
 clear h hle hmR
 go_enter Tryz.func110,Tryz.ntmps110
 go_wp2_with (at_range;refine wpList_range_ents rfl _ rfl g.mb g.es rfl HG.out.map ?_;intro w0 cnt0 hrg0 hg0 hs0)
 rw [←hR] at hrg0 hs0 ⊢
 go_frame
 have HRG:=Lib.hid hrg0
 have HG0:=Lib.hid hg0
 have HS0:=Lib.hid hs0
 clear hrg0 hg0 hs0 hR
 go_loopw [5,6] (fun u _ wr=>∃ v vis rem cnt,v=u∧RangeIn wr g.mb R g.es vis rem cnt∧Below w.heap.size w wr∧R+1≤wr.heap.size∧wr.ownsRow (R+1) 9 1 v (begins head vis).length ((begins head vis).map encStr)) (fun _ _ wr=>toCome g.mb wr R)
 case atStart=>exact ⟨_,[],_,_,rfl,HRG.out,below_grown (Below.refl _ _) HG0.out (Nat.le_refl _),by rw [HS0.out];exact Nat.le_refl _,World.ownsRow_nil _ _ _ _⟩
 case round=>
  obtain ⟨v,vis,rem,cnt,rfl,hrg,hbl,hsz,hown⟩:=hrel
  have HRG1:=Lib.hid hrg
  have HBL:=Lib.hid hbl
  have HOWN:=Lib.hid hown
  clear hrg hbl HRG hown
  go_wp2_with (at_next;refine wpList_next_ents rfl _ rfl g.mb R g.es vis rem cnt rfl HRG1.out ?cd ?cm)
  case cd=>
   intro hrem
   have hp:vis.Perm g.es:=by
    have:=HRG1.out
    rw [hrem] at this
    exact this.done
   have HP:=Lib.hid hp
   clear hrem hp
   have hsrt:Calls Tryz.prog 163 #[v] wr fun e w'=>e = .returned (.tuple #[])∧w'.ownsRow w.heap.size 9 1 v (begins head vis).length (((begins head vis).mergeSort fun x y=>decide (x≤y)).map encStr)∧Below w.heap.size w w':=by
    have hpl:(begins head vis).length≤1099511627776:=by
     unfold begins
     rw [List.length_map]
     exact Nat.le_trans (List.length_filter_le _ _) (by rw [HP.out.length_eq];exact HLE.out)
    rcases HOWN.out.2 with ⟨rfl,h0⟩|⟨g1,cap,cur,rfl,hbase,hb,h1,h2,h3,h4⟩
    ·have hnil:begins head vis=[]:=List.length_eq_zero_iff.1 h0
     refine (Tryz.slices_Sort_string_none none 0 wr).mono ?_
     rintro e w' ⟨rfl,rfl⟩
     rw [hnil]
     refine ⟨rfl,?_,HBL.out⟩
     rw [List.mergeSort_nil]
     exact World.ownsRow_nil _ _ _ _
    ·refine (Tryz.slices_Sort_string g1 0 cap (begins head vis) wr (holds_of_block hb (by simpa using h4)) (Array.getElem?_eq_some_iff.1 hb).1 (by omega)).mono ?_
     rintro e w' ⟨rfl,nn,os,rfl⟩
     refine ⟨rfl,ownsRow_sorted (by simp) (by have:=HR.out;omega) hb h1 h2 h3,?_⟩
     exact below_grown' HBL.out (grownBy_sorted _) (Nat.le_refl _) (by have:=HR.out;omega)
   have HSRT:=Lib.hid hsrt
   clear hsrt
   go_wp2_with (go_at_call 163;refine HSRT.out.mono ?_;rintro e w2 ⟨rfl,ho2,hb2⟩)
   go_ret
   exact ⟨v,vis,rfl,HP.out,ho2,hb2⟩
  case cm=>
   intro e r1 r2 w2 cnt2 hrem hmb hrg2 hlt hg2 hs2 hen
   obtain ⟨m,hm⟩:∃ m,g.mb=some m:=by
    cases hq:g.mb with
    | none=>exact absurd hq hmb
    | some m=>exact ⟨m,rfl⟩
   have hp:=HRG1.out.perm
   rw [hrem] at hp
   have hbl2:Below w.heap.size w w2:=below_grown' HBL.out hg2 (Nat.le_refl _) (by rw [HR.out];exact Nat.le_refl _)
   have hme:toCome g.mb w2 R<toCome g.mb wr R:=by
    rw [hm] at hrg2 ⊢
    have h1:=hrg2.toCome
    have h2:=HRG1.out
    rw [hm] at h2
    rw [h1,h2.toCome]
    exact hlt
   have hown2:w2.ownsRow (R+1) 9 1 v (begins head vis).length ((begins head vis).map encStr):=HOWN.out.kept hg2 (by
    by_cases h0:v.ownBlock=none
    ·exact .inl h0
    ·right
     intro hx
     have:=(HOWN.out.lt R hx).1
     omega)
   have hlen:(begins head vis).length+1≤1099511627776+1:=by
    have h1:(begins head vis).length≤vis.length:=by unfold begins;rw [List.length_map];exact List.length_filter_le _ _
    have h2:=hp.length_eq
    simp only [List.length_append,List.length_cons] at h2
    have:=HLE.out
    omega
   have HRG2:=Lib.hid hrg2
   have HBL2:=Lib.hid hbl2
   have HME:=Lib.hid hme
   have HM:=Lib.hid hm
   have HOWN2:=Lib.hid hown2
   have HSN:=Lib.hid (begins_snoc head vis e)
   have hsz2:R+1≤w2.heap.size:=by rw [hs2];exact hsz
   clear hp hrem hmb hrg2 hlt hg2 hs2 hbl2 hme hm hown2 HRG1 HBL HOWN
   obtain ⟨b,hb⟩:∃ b,b=Lib.hasPrefix e.name.data.toList head.data.toList:=⟨_,rfl⟩
   have hpre:∀ w',Calls Tryz.prog 162 #[.string e.name,.string head] w' fun x w''=>x = .returned (.bool b)∧w''=w':=fun w'=>hb▸Tryz.strings_HasPrefix e.name head w'
   have HPRE:=Lib.hid hpre
   have HB:=Lib.hid hb
   clear hpre hb
   cases b with
   | false=>
    go_wp2_with (go_at_call 162;refine (HPRE.out _).mono ?_;rintro x w3 ⟨rfl,rfl⟩)
    refine ⟨⟨v,vis ++ [e],r1 ++ r2,cnt2,rfl,HRG2.out,HBL2.out,hsz2,?_⟩,HME.out⟩
    rw [HSN.out,←HB.out]
    simpa using HOWN2.out
   | true=>
    go_wp2_with (first
     | (go_at_call 162;refine (HPRE.out _).mono ?_;rintro x w3 ⟨rfl,rfl⟩)
     | (at_builtin;refine wpList_append_own _ rfl (.tmp 21) (.tmp 23) 34 rfl (R+1) 9 i0 (.string ⟨#[]⟩) 1 16 Tryz.underlying34 hi hz0 hz1 hz2 rfl (by decide) v (begins head vis).length ((begins head vis).map encStr) rfl (HOWN2.out.alloc _) ⟨w3.heap.size,0,none⟩ 1 1 [.string e.name] rfl rfl ?c1 ?c2 ?c3 ?c4 ?c5 ?c6))
    case c1=>exact cell_one_new _ _ _
    case c2=>intro u hu;simp at hu;rw [hu];rfl
    case c3=>unfold maxLen;omega
    case c4=>omega
    case c5=>simp;omega
    case c6=>
     intro v' w4 hown4 hgrow4 _
     have hm:=HM.out
     have hr4:RangeIn w4 g.mb R g.es (vis ++ [e]) (r1 ++ r2) cnt2:=by
      have h1:=HRG2.out
      rw [hm] at h1 ⊢
      have h2:=h1.kept (Chg.alloc (fun _=>False) (Chg.refl _ _) (.cells #[.string e.name] 9)) (fun x=>x) (fun x=>x)
      exact h2.grown (HOWN2.out.alloc _) hgrow4 (by have:=HMR.out m hm;omega) (by omega)
     have hb4:Below w.heap.size w w4:=by
      have h1:=(HBL2.out).alloc HBL2.out.size (.cells #[.string e.name] 9)
      refine h1.grown hgrow4 h1.size (fun k hk=>?_)
      have:=(HOWN2.out.lt k hk).1
      have:=HR.out
      omega
     have hs4:R+1≤w4.heap.size:=by have:=hgrow4.size;simp at this;omega
     have hme4:toCome g.mb w4 R<toCome g.mb wr R:=by
      have h1:=HME.out
      have h2:=HRG2.out
      rw [hm] at h1 h2 hr4 ⊢
      rw [hr4.toCome]
      rw [h2.toCome] at h1
      exact h1
     have HR4:=Lib.hid hr4
     have HB4:=Lib.hid hb4
     have HME4:=Lib.hid hme4
     have HO4:=Lib.hid hown4
     clear hr4 hb4 hme4 hown4 hgrow4 hm
     go_wp2_with fail
     refine ⟨⟨v',vis ++ [e],r1 ++ r2,cnt2,rfl,HR4.out,HB4.out,hs4,?_⟩,HME4.out⟩
     rw [HSN.out,←HB.out]
     simp only [if_true,List.length_append,List.map_append,List.map_cons,List.map_nil,List.length_cons,List.length_nil,encStr_name]
     exact HO4.out
end Go.Proofs.YtajmeimjaapagaaGreatDoor
namespace Go.Proofs.YtajmeimjaapagaaGreatDoor
open Go.RowKit Go.Deep
open Go.Sort (grow putRow Holds putCells PermIn SortedIn)
structure WaitM where
 x:WriteM
 to_:Nat
instance:Inhabited WaitM:=⟨⟨⟨0,0,⟨#[]⟩⟩,0⟩⟩
end Go.Proofs.YtajmeimjaapagaaGreatDoor
namespace Go.Proofs.YtajmeimjaapagaaGreatDoor
open Go.RowKit Go.Deep
abbrev Sk:=ByteArray×Nat×FileM
def imgF (f:FileM) (x:WriteM):FileM:={ f with image:=putB f.image x.at_ x.s.data.toList }
def img1 (z:WaitM) (p:Sk):Sk:=if p.2.1=z.to_ then (p.1,p.2.1,imgF p.2.2 z.x) else p
def img (l:List Sk) (z:WaitM):List Sk:=l.map (img1 z)
attribute [local go_sem] fr_opt
end Go.Proofs.YtajmeimjaapagaaGreatDoor
namespace Go.Proofs.YtajmeimjaapagaaGreatDoor
open Go.RowKit Go.Deep
attribute [local go_sem] fr_opt
end Go.Proofs.YtajmeimjaapagaaGreatDoor
namespace Go.Proofs.YtajmeimjaapagaaGreatDoor
open Go.RowKit Go.Deep
structure GoodF (n:Nat) (f:FileM):Prop where
 bytes:f.bytes=putAll f.image f.writes
 image:f.image.length≤f.bytes.length
 writes:∀ x∈f.writes,x.at_+x.s.size≤f.bytes.length
 count:f.writes.length≤n
def sumB (fs:List (ByteArray×FileM)):Nat:=(fs.map fun p=>p.2.bytes.length).sum
structure Good (n:Nat) (st:St):Prop where
 fuse:FuseOk st
 cap:st.cap≤16777216
 size:st.size≤st.cap
 sum:st.size=sumB st.fs
 names:(st.fs.map (·.1)).Nodup
 turn:st.turn≤n
 len:st.fs.length≤n
 files:∀ p∈st.fs,GoodF n p.2
theorem GoodF.more {n m:Nat} {f:FileM} (h:GoodF n f) (hm:n≤m):GoodF m f:=⟨h.bytes,h.image,h.writes,Nat.le_trans h.count hm⟩
theorem Good.more {n m:Nat} {st:St} (h:Good n st) (hm:n≤m):Good m st:=
 ⟨h.fuse,h.cap,h.size,h.sum,h.names,Nat.le_trans h.turn hm,Nat.le_trans h.len hm,fun p hp=>(h.files p hp).more hm⟩
theorem Good.sizeOk {n:Nat} {st:St} (h:Good n st):SizeOk st:=⟨h.sum,h.names⟩
theorem mem_sumB {fs:List (ByteArray×FileM)} {p:ByteArray×FileM} (h:p∈fs):p.2.bytes.length≤sumB fs:=by
 obtain ⟨l1,l2,rfl⟩:=List.append_of_mem h
 unfold sumB
 simp only [List.map_append,List.map_cons,List.sum_append_nat,List.sum_cons]
 omega
theorem Good.within {n:Nat} {st:St} (h:Good n st) (hn:n≤1073741824) {p:ByteArray×FileM} (hp:p∈st.fs):Within p.2 1073741824:=by
 have h1:=mem_sumB hp
 have h2:=h.sum
 have h3:=h.size
 have h4:=h.cap
 have hf:=h.files p hp
 have h5:=hf.image
 have h6:=hf.count
 refine ⟨by omega,by omega,by omega,fun x hx=>?_⟩
 have:=hf.writes x hx
 omega
theorem Good.allIn {n:Nat} {st:St} (h:Good n st) (hn:n≤1073741824):AllIn st 1099511627776:=fun p hp=>by
 obtain ⟨h1,h2,h3,h4⟩:=h.within hn hp
 refine ⟨by omega,by omega,by omega,fun x hx=>?_⟩
 have:=h4 x hx
 omega
theorem Good.new (c:Int):Good 0 (newSt c):=by
 refine ⟨⟨fun h=>(by cases h),(by show (0:Int)≤_;omega)⟩,?_,Nat.zero_le _,rfl,List.nodup_nil,Nat.le_refl _,Nat.le_refl _,fun p hp=>(by cases hp)⟩
 show (min (max c 0) 16777216).toNat≤16777216
 omega
theorem FuseOk.burn {st:St} (h:FuseOk st):FuseOk (burnS st):=by
 unfold burnS
 split
 ·rename_i h1
  split
  ·exact h
  ·rename_i h2
   have h3:=h.1 h1
   have h4:=h.2
   refine ⟨fun _=>?_,?_⟩
   ·show 0≤st.left - 1
    omega
   ·show st.left - 1≤_
    omega
 ·exact h
theorem Good.burn {n:Nat} {st:St} (h:Good n st):Good n (burnS st):=by
 refine ⟨h.fuse.burn,?_,?_,?_,?_,?_,?_,?_⟩
 ·rw [burnS_cap];exact h.cap
 ·rw [burnS_cap,burnS_size];exact h.size
 ·rw [burnS_fs,burnS_size];exact h.sum
 ·rw [burnS_fs];exact h.names
 ·rw [burnS_turn];exact h.turn
 ·rw [burnS_fs];exact h.len
 ·rw [burnS_fs];exact h.files
theorem goodF_empty (n:Nat):GoodF n emptyF:=⟨rfl,Nat.le_refl _,fun x hx=>(by cases hx),Nat.zero_le _⟩
theorem find_none {fs:List (ByteArray×FileM)} {nm:ByteArray} (h:¬ (((fs.find? fun p=>decide (p.1=nm)).map (·.2)).isSome=true)):nm∉fs.map (·.1):=fun hx=>by
 obtain ⟨p,hp,rfl⟩:=List.mem_map.1 hx
 apply h
 rw [Option.isSome_map,List.find?_isSome]
 exact ⟨p,hp,by simp⟩
theorem Good.create {n:Nat} {st:St} (h:Good n st) (nm:ByteArray):Good (n+1) (createS st nm):=by
 unfold createS
 split
 ·exact h.more (Nat.le_succ _)
 ·split
  ·exact h.more (Nat.le_succ _)
  ·rename_i hf
   split
   ·have hb:=h.burn
    refine ⟨hb.fuse,hb.cap,hb.size,?_,?_,Nat.le_succ_of_le hb.turn,?_,?_⟩
    ·show (burnS st).size=sumB (st.fs ++ [(nm,emptyF)])
     rw [burnS_size,h.sum]
     unfold sumB
     simp [emptyF]
    ·show ((st.fs ++ [(nm,emptyF)]).map (·.1)).Nodup
     rw [List.map_append,List.nodup_append]
     refine ⟨h.names,by simp,fun a ha b hb' hab=>?_⟩
     simp at hb'
     subst hb'
     subst hab
     exact find_none hf ha
    ·show (st.fs ++ [(nm,emptyF)]).length≤n+1
     rw [List.length_append]
     have:=h.len
     simp;omega
    ·intro p hp
     rcases List.mem_append.1 hp with h1|h1
     ·exact (h.files p h1).more (Nat.le_succ _)
     ·simp at h1;subst h1;exact goodF_empty _
   ·exact h.burn.more (Nat.le_succ _)
theorem setF_none {fs:List (ByteArray×FileM)} {nm:ByteArray} (f:FileM) (h:nm∉fs.map (·.1)):setF fs nm f=fs:=by
 unfold setF
 refine (List.map_congr_left fun p hp=>?_).trans (List.map_id _)
 exact if_neg fun (e:p.1=nm)=>h (e▸List.mem_map_of_mem hp)
theorem sumB_cons (p:ByteArray×FileM) (l:List (ByteArray×FileM)):sumB (p :: l)=p.2.bytes.length+sumB l:=rfl
theorem sumB_setF {fs:List (ByteArray×FileM)} {nm:ByteArray} {f:FileM} (f':FileM) (hn:(fs.map (·.1)).Nodup) (hf:(fs.find? fun p=>decide (p.1=nm)).map (·.2)=some f) :
 sumB (setF fs nm f')+f.bytes.length=sumB fs+f'.bytes.length:=by
 induction fs with
 | nil=>cases hf
 | cons p l ih=>
  rw [List.map_cons,List.nodup_cons] at hn
  by_cases hp:p.1=nm
  ·rw [List.find?_cons_of_pos (by simp [hp])] at hf
   obtain rfl:p.2=f:=Option.some.inj hf
   have h1:setF (p :: l) nm f'=(nm,f') :: setF l nm f':=by unfold setF;rw [List.map_cons,if_pos hp]
   rw [h1,setF_none f' (hp▸hn.1),sumB_cons,sumB_cons]
   show f'.bytes.length+sumB l+p.2.bytes.length=p.2.bytes.length+sumB l+f'.bytes.length
   omega
  ·rw [List.find?_cons_of_neg (by simp [hp])] at hf
   have h1:setF (p :: l) nm f'=p :: setF l nm f':=by unfold setF;rw [List.map_cons,if_neg hp]
   have:=ih hn.2 hf
   rw [h1,sumB_cons,sumB_cons]
   omega
theorem mem_setF {fs:List (ByteArray×FileM)} {nm:ByteArray} {f:FileM} {p:ByteArray×FileM} (h:p∈setF fs nm f):p∈fs∨p=(nm,f):=by
 obtain ⟨q,hq,rfl⟩:=List.mem_map.1 h
 by_cases hp:q.1=nm
 ·exact .inr (if_pos hp)
 ·rw [if_neg hp];exact .inl hq
theorem Good.set {n m:Nat} {st:St} (h:Good n st) (hm:n≤m) {nm:ByteArray} {f f':FileM} (hf:st.find nm=some f) (hg:GoodF m f') (k t:Nat) (hk:k+f.bytes.length=st.size+f'.bytes.length) (hc:k≤st.cap) (ht:t≤m) :
 Good m { st with size:=k,turn:=t,fs:=setF st.fs nm f' }:=by
 refine ⟨h.fuse,h.cap,hc,?_,?_,ht,?_,?_⟩
 ·show k=sumB (setF st.fs nm f')
  have:=sumB_setF f' h.names hf
  have:=h.sum
  omega
 ·show ((setF st.fs nm f').map (·.1)).Nodup
  rw [names_setF];exact h.names
 ·show (setF st.fs nm f').length≤m
  unfold setF
  rw [List.length_map]
  exact Nat.le_trans h.len hm
 ·intro p hp
  rcases mem_setF hp with h1|rfl
  ·exact (h.files p h1).more hm
  ·exact hg
theorem Good.file {n:Nat} {st:St} (h:Good n st) {nm:ByteArray} {f:FileM} (hf:st.find nm=some f):GoodF n f:=h.files _ (find_mem hf)
theorem text_len (s:ByteArray):s.data.toList.length=s.size:=by rw [Array.length_toList];rfl
theorem putB_size (b:List UInt8) (a:Nat) (s:ByteArray) (hs:s.size≠0):(putB b a s.data.toList).length=max b.length (a+s.size):=by
 rw [putB_length _ _ _ (fun e=>hs (by rw [←text_len,e];rfl)),text_len]
theorem GoodF.add {n:Nat} {f:FileM} (h:GoodF n f) (x:WriteM) (hx:x.s.size≠0):GoodF (n+1) (addF f x):=by
 have hl:=putB_size f.bytes x.at_ x.s hx
 refine ⟨?_,?_,?_,?_⟩
 ·show putB f.bytes _ _=putAll f.image (f.writes ++ [x])
  rw [putAll_snoc,←h.bytes]
 ·show f.image.length≤(putB f.bytes _ _).length
  have:=h.image
  omega
 ·intro y hy
  show _≤(putB f.bytes _ _).length
  rcases List.mem_append.1 hy with h1|h1
  ·have:=h.writes y h1
   omega
  ·simp at h1;subst h1;omega
 ·show (f.writes ++ [x]).length≤n+1
  have:=h.count
  simp;omega
theorem GoodF.sync {n:Nat} {f:FileM} (h:GoodF n f):GoodF n (syncF f):=by
 refine ⟨h.bytes,?_,fun x hx=>(by cases hx),Nat.zero_le _⟩
 show (putAll f.image f.writes).length≤f.bytes.length
 rw [←h.bytes]
 exact Nat.le_refl _
theorem GoodF.cut {n:Nat} {f:FileM} (h:GoodF n f) (k:Nat):GoodF n (cutF f k):=by
 refine ⟨?_,?_,fun x hx=>(by cases hx),Nat.zero_le _⟩
 ·show f.bytes.take k=(putAll f.image f.writes).take k
  rw [←h.bytes]
 ·show ((putAll f.image f.writes).take k).length≤(f.bytes.take k).length
  rw [←h.bytes]
  exact Nat.le_refl _
theorem burn_find (st:St) (nm:ByteArray):(burnS st).find nm=st.find nm:=by unfold St.find;rw [burnS_fs]
theorem Good.write {n:Nat} {st:St} (h:Good n st) (nm:ByteArray) (a:Int) (s:ByteArray):Good (n+1) (writeS st nm a s):=by
 have h0:=h.more (Nat.le_succ n)
 have hb:=h0.burn
 unfold writeS
 split
 ·exact h0
 ·split
  ·exact h0
  ·rename_i f hf
   split
   ·exact h0
   ·split
    ·exact h0
    ·rename_i hr
     split
     ·split
      ·exact hb
      ·rename_i hs
       have hl:=putB_size f.bytes a.toNat s hs
       have hlen:(addF f ⟨(st.turn:Int)+1,a.toNat,s⟩).bytes.length=(putB f.bytes a.toNat s.data.toList).length:=rfl
       have h1:=h.size
       unfold Go.Proofs.YtajmeimjaapagaaGreatDoor.more at hr ⊢
       rw [←burnS_fs st]
       refine h.burn.set (Nat.le_succ n) (f:=f) (by rw [burn_find];exact hf) ((h.file hf).add _ hs) _ _ ?_ ?_ ?_
       ·rw [burnS_size,hlen];omega
       ·rw [burnS_cap];omega
       ·exact Nat.succ_le_succ h.turn
     ·exact hb
theorem Good.sync1 {n:Nat} {st:St} (h:Good n st) (nm:ByteArray):Good n (sync1 st nm):=by
 unfold Go.Proofs.YtajmeimjaapagaaGreatDoor.sync1
 split
 ·exact h
 ·rename_i f hf
  exact h.set (Nat.le_refl n) hf (h.file hf).sync st.size st.turn rfl h.size h.turn
theorem Good.syncAll {n:Nat} {st:St} (h:Good n st) (ts:List ByteArray):Good n (syncAll st ts):=by
 unfold Go.Proofs.YtajmeimjaapagaaGreatDoor.syncAll
 induction ts generalizing st with
 | nil=>exact h
 | cons t ts ih=>exact ih (h.sync1 t)
theorem Good.cut {n:Nat} {st:St} (h:Good n st) (nm:ByteArray) (k:Int):Good n (cutS st nm k):=by
 unfold cutS
 split
 ·exact h
 ·split
  ·exact h
  ·rename_i f hf
   split
   ·exact h
   ·rename_i hk
    split
    ·have hlen:(cutF f k.toNat).bytes.length=min k.toNat f.bytes.length:=by show (f.bytes.take _).length=_;rw [List.length_take]
     have h1:=h.size
     have h2:=h.sum
     have h3:=mem_sumB (find_mem hf)
     simp only at h3
     rw [←burnS_fs st]
     refine h.burn.set (Nat.le_refl n) (f:=f) (by rw [burn_find];exact hf) ((h.file hf).cut _) _ _ ?_ ?_ h.burn.turn
     ·rw [burnS_size,hlen];omega
     ·rw [burnS_cap];omega
    ·exact h.burn
theorem sumB_dropF {fs:List (ByteArray×FileM)} (hn:(fs.map (·.1)).Nodup) (nm:ByteArray):sumB (dropF fs nm)+lenF fs nm=sumB fs:=len_split hn nm
theorem names_dropF (fs:List (ByteArray×FileM)) (nm:ByteArray) (hn:(fs.map (·.1)).Nodup):((dropF fs nm).map (·.1)).Nodup∧nm∉(dropF fs nm).map (·.1):=by
 refine ⟨?_,fun hx=>?_⟩
 ·unfold dropF
  exact List.Nodup.sublist ((List.filter_sublist).map _) hn
 ·obtain ⟨p,hp,rfl⟩:=List.mem_map.1 hx
  have:=(List.mem_filter.1 hp).2
  simp at this
theorem Good.remove {n:Nat} {st:St} (h:Good n st) (nm:ByteArray):Good n (removeS st nm):=by
 have h1:=sumB_dropF h.names nm
 have h2:=h.sum
 have h3:=h.size
 refine ⟨h.fuse,h.cap,?_,?_,(names_dropF _ nm h.names).1,h.turn,?_,fun p hp=>h.files p (List.mem_filter.1 hp).1⟩
 ·show st.size - st.len nm≤st.cap
  omega
 ·show st.size - st.len nm=sumB (dropF st.fs nm)
  rw [len_eq];omega
 ·exact Nat.le_trans (List.length_filter_le _ _) h.len
theorem Good.deleteAll {n:Nat} {st:St} (h:Good n st) (ts:List ByteArray):Good n (deleteAll st ts):=by
 unfold Go.Proofs.YtajmeimjaapagaaGreatDoor.deleteAll
 induction ts generalizing st with
 | nil=>exact h
 | cons t ts ih=>exact ih (h.remove t)
theorem Good.delete {n:Nat} {st:St} (h:Good n st) (ts:List ByteArray):Good n (deleteS st ts):=by
 unfold deleteS
 split
 ·split
  ·exact h.burn.deleteAll ts
  ·exact h.burn
 ·exact h
theorem find_dropF {fs:List (ByteArray×FileM)} {a b:ByteArray} (hab:a≠b):(dropF fs b).find? (fun p=>decide (p.1=a))=fs.find? (fun p=>decide (p.1=a)):=by
 unfold dropF
 rw [List.find?_filter]
 congr 1
 funext p
 by_cases hp:p.1=a
 ·subst hp;simp [hab]
 ·simp [hp]
structure Ease (n:Nat) (st:St):Prop where
 good:Good n st
 lit:st.lit=false
 down:st.down=false
theorem Ease.burnE {n:Nat} {st:St} (h:Ease n st):burnE st=0:=by unfold Go.Proofs.YtajmeimjaapagaaGreatDoor.burnE;rw [h.lit];rfl
theorem Ease.burnS {n:Nat} {st:St} (h:Ease n st):burnS st=st:=by unfold Go.Proofs.YtajmeimjaapagaaGreatDoor.burnS;rw [h.lit];rfl
theorem Ease.more {n m:Nat} {st:St} (h:Ease n st) (hm:n≤m):Ease m st:=⟨h.good.more hm,h.lit,h.down⟩
theorem Ease.new (c:Int):Ease 0 (newSt c):=⟨Good.new c,rfl,rfl⟩
def wS:ByteArray:=⟨#[119,45,115,108,111,116,115]⟩
def wH:ByteArray:=⟨#[119,45]⟩
def wbytes (L:List Nat):List UInt8:=L.flatMap (Oc.numB 6)
theorem wbytes_cons (x:Nat) (L:List Nat):wbytes (x :: L)=Oc.numB 6 x ++ wbytes L:=rfl
theorem wbytes_app (A B:List Nat):wbytes (A ++ B)=wbytes A ++ wbytes B:=List.flatMap_append
theorem wbytes_length:∀ L,(wbytes L).length=6*L.length
 | []=>rfl
 | x :: L=>by rw [wbytes_cons,List.length_append,Oc.numB_length,wbytes_length L,List.length_cons];omega
theorem wsplit (L:List Nat) {i:Nat} (h:i<L.length):L=L.take i ++ L.getD i 0 :: L.drop (i+1):=by
 rw [List.getD_eq_getElem?_getD,List.getElem?_eq_getElem h]
 show L=L.take i ++ L[i] :: L.drop (i+1)
 rw [List.getElem_cons_drop,List.take_append_drop]
theorem wbytes_at (L:List Nat) {i:Nat} (h:i<L.length):((wbytes L).drop (6*i)).take 6=Oc.numB 6 (L.getD i 0):=by
 have e:=wsplit L h
 obtain ⟨A,hA⟩:∃ A,A=L.take i:=⟨_,rfl⟩
 obtain ⟨x,hx⟩:∃ x,x=L.getD i 0:=⟨_,rfl⟩
 obtain ⟨T,hT⟩:∃ T,T=L.drop (i+1):=⟨_,rfl⟩
 have hl:A.length=i:=by rw [hA,List.length_take];omega
 rw [←hA,←hx,←hT] at e
 rw [←hx,e]
 have h1:=wbytes_length A
 rw [hl] at h1
 rw [wbytes_app,wbytes_cons,←h1,List.drop_left,List.take_append_of_le_length (by rw [Oc.numB_length];exact Nat.le_refl _),List.take_of_length_le (by rw [Oc.numB_length];exact Nat.le_refl _)]
theorem wputB_mid (A M T M':List UInt8) (h:M'.length=M.length) (h0:M'≠[]):putB (A ++ (M ++ T)) A.length M'=A ++ (M' ++ T):=by
 unfold putB
 rw [if_neg h0]
 have e:A.length+M'.length - (A ++ (M ++ T)).length=0:=by simp only [List.length_append];omega
 rw [e,List.replicate_zero,List.append_nil,List.take_left]
 have e2:(A ++ (M ++ T)).drop (A.length+M'.length)=T:=by
  rw [h,←List.append_assoc,←List.length_append,List.drop_left]
 rw [e2,List.append_assoc]
theorem wnum_ne (x:Nat):Oc.numB 6 x≠[]:=fun hx=>by
 have:=Oc.numB_length 6 x
 rw [hx] at this;simp at this
theorem wbytes_set (L:List Nat) {i:Nat} (n:Nat) (h:i<L.length):putB (wbytes L) (6*i) (Oc.numB 6 n)=wbytes (L.set i n):=by
 have e:=wsplit L h
 obtain ⟨A,hA⟩:∃ A,A=L.take i:=⟨_,rfl⟩
 obtain ⟨x,hx⟩:∃ x,x=L.getD i 0:=⟨_,rfl⟩
 obtain ⟨T,hT⟩:∃ T,T=L.drop (i+1):=⟨_,rfl⟩
 have hl:A.length=i:=by rw [hA,List.length_take];omega
 rw [←hA,←hx,←hT] at e
 have hs:L.set i n=A ++ n :: T:=by rw [e,←hl,List.set_append_right _ _ (Nat.le_refl _),Nat.sub_self];rfl
 rw [hs,e]
 have h1:=wbytes_length A
 rw [hl] at h1
 rw [wbytes_app,wbytes_cons,wbytes_app,wbytes_cons,←h1]
 exact wputB_mid _ _ _ _ (by rw [Oc.numB_length,Oc.numB_length]) (wnum_ne n)
def zeros96:ByteArray:=⟨(List.replicate 96 (0:UInt8)).toArray⟩
theorem zeros96_size:zeros96.size=96:=by decide +kernel
theorem zeros96_bytes:zeros96.data.toList=wbytes (List.replicate 16 0):=by decide +kernel
def wSetE (slot x:Int):Int:=if slot<0∨15<slot then 2 else if x<0∨281474976710656≤x then 1 else 0
def wSetL (L:List Nat) (slot x:Int):List Nat:=if wSetE slot x=0 then L.set slot.toNat x.toNat else L
theorem wSetL_length (L:List Nat) (slot x:Int):(wSetL L slot x).length=L.length:=by unfold wSetL;split<;>simp
theorem wSetL_ok {L:List Nat} {slot x:Int} (h:∀ y∈L,y<281474976710656):∀ y∈wSetL L slot x,y<281474976710656:=by
 unfold wSetL
 split
 ·rename_i he
  intro y hy
  rcases List.mem_or_eq_of_mem_set hy with h1|h1
  ·exact h y h1
  ·unfold wSetE at he
   split at he
   ·cases he
   ·split at he
    ·cases he
    ·omega
 ·exact h
theorem ease_writeA {n:Nat} {st:St} (h:Ease n st) {nm:ByteArray} {f:FileM} {a:Nat} {s:ByteArray} (hf:st.find nm=some f) (ha:a≤f.bytes.length) (hm:more f a s.size≤st.cap - st.size) (h0:s.size≠0) :
 writeE st nm a s=0∧writeS st nm a s = { st with size:=st.size+more f a s.size,turn:=st.turn+1,fs:=setF st.fs nm (addF f ⟨(st.turn:Int)+1,a,s⟩)}∧Ease (n+1) (writeS st nm a s):=by
 have e2:writeS st nm a s = { st with size:=st.size+more f a s.size,turn:=st.turn+1,fs:=setF st.fs nm (addF f ⟨(st.turn:Int)+1,a,s⟩)}:=by
  unfold writeS
  rw [if_neg (by rw [h.down];simp),hf]
  simp only [Int.toNat_natCast]
  rw [if_neg (by omega),if_neg (by omega),if_pos h.burnE,if_neg h0,h.burnS]
 refine ⟨?_,e2,h.good.write nm a s,by rw [e2];exact h.lit,by rw [e2];exact h.down⟩
 unfold writeE
 rw [if_neg (by rw [h.down];simp),hf]
 simp only [Int.toNat_natCast]
 rw [if_neg (by omega),if_neg (by omega),h.burnE]
theorem wfind_other {st:St} {a b:ByteArray} {f:FileM} {sz tn:Nat} (hab:a≠b):St.find { st with size:=sz,turn:=tn,fs:=setF st.fs b f } a=st.find a:=by
 unfold St.find
 have:(setF st.fs b f).find? (fun p=>decide (p.1=a))=st.fs.find? (fun p=>decide (p.1=a)):=by
  unfold setF
  induction st.fs with
  | nil=>rfl
  | cons p l ih=>
   rw [List.map_cons,List.find?_cons,List.find?_cons]
   by_cases hb:p.1=b
   ·rw [if_pos hb]
    have h1:decide (b=a)=false:=decide_eq_false (fun hx=>hab hx.symm)
    have h2:decide (p.1=a)=false:=decide_eq_false (fun hx=>hab (hx▸hb))
    simp only [h1,h2]
    exact ih
   ·rw [if_neg hb]
    cases decide (p.1=a)
    ·exact ih
    ·rfl
 show ((setF st.fs b f).find? _).map _=_
 rw [this]
theorem wfind_same {st:St} {a:ByteArray} {f f':FileM} {sz tn:Nat} (h:st.find a=some f):St.find { st with size:=sz,turn:=tn,fs:=setF st.fs a f' } a=some f':=by
 unfold St.find at h ⊢
 show ((setF st.fs a f').find? _).map _=_
 unfold setF
 generalize st.fs=l at h
 induction l with
 | nil=>cases h
 | cons p l ih=>
  rw [List.map_cons,List.find?_cons]
  rw [List.find?_cons] at h
  by_cases hb:p.1=a
  ·rw [if_pos hb]
   simp
  ·rw [if_neg hb]
   rw [decide_eq_false hb] at h ⊢
   exact ih h
theorem ease_createF {n:Nat} {st:St} (h:Ease n st) {nm:ByteArray} (hf:st.find nm=none) :
 createE st nm=0∧createS st nm = { st with fs:=st.fs ++ [(nm,emptyF)]}∧Ease (n+1) (createS st nm):=by
 have c1:createE st nm=0:=by unfold createE;rw [if_neg (by rw [h.down];simp),if_neg (by rw [hf];simp)];exact h.burnE
 have c2:createS st nm = { st with fs:=st.fs ++ [(nm,emptyF)]}:=by unfold createS;rw [if_neg (by rw [h.down];simp),if_neg (by rw [hf];simp),if_pos h.burnE,h.burnS]
 exact ⟨c1,c2,h.good.create nm,by rw [c2];exact h.lit,by rw [c2];exact h.down⟩
attribute [local go_sem] fr_opt
theorem wpart_text {w:World} {B cap:Nat} {cur:Array Value} {xs:List UInt8} {a k:Nat} (hg:w.heap[B]? = some (.cells cur 5 (0,0))) (h4:cur.toList.take xs.length=xs.map by8) (hk:a+k≤xs.length) :
 (convert 65 9 (.slice (some ⟨B,a,none⟩) k cap)).run Tryz.prog w = .ok (.string ⟨((xs.drop a).take k).toArray⟩) w:=by
 have hl:((xs.drop a).take k).length=k:=by rw [List.length_take,List.length_drop];omega
 have:=run_convert_bytes_back (P:=Tryz.prog) w 65 9 5 ⟨B,a,none⟩ cap ((xs.drop a).take k) Tryz.underlying65 Tryz.underlying5 Tryz.underlying9 (fun j hj=>by
  rw [hl] at hj
  rw [add_none]
  have e1:(cur.toList.take xs.length)[a+j]? = (xs.map by8)[a+j]?:=by rw [h4]
  rw [List.getElem?_take,if_pos (by omega),Array.getElem?_toList,List.getElem?_map,List.getElem?_eq_getElem (by omega)] at e1
  simp [World.cell?,hg,e1,by8])
 rw [hl] at this
 exact this
set_option maxRecDepth 100000 in
theorem wread_ok (g:Gh) (st:St) (nm:ByteArray) (f:FileM) (a k:Nat) (w:World) (h:DiskAt w g st) (hm:nm.size≤maxLen) (hq:st.down=false) (hf:st.find nm=some f) (hk:0<k) (ha:a+k≤f.bytes.length) (hl:f.bytes.length≤1099511627776) :
 Calls Tryz.prog 75 #[.pointer (some ⟨g.d,0,none⟩),.string nm,.int .i64 a,.int .i64 k] w fun e w'=>e = .returned (.tuple #[.string ⟨((f.bytes.drop a).take k).toArray⟩,.int .i64 0])∧Below w.heap.size w w':=by
 have hf':=h.find nm
 rw [hf] at hf'
 obtain ⟨e0,hg,rfl⟩:∃ e0,getE g.es nm=some e0∧e0.f=f:=by
  cases hx:getE g.es nm with
  | none=>rw [hx] at hf';cases hf'
  | some e0=>rw [hx] at hf';exact ⟨e0,rfl,Option.some.inj hf'⟩
 have HC:=Lib.hid (find_ok g st nm w h hm hq e0 hg)
 have HE:=Lib.hid (h.ents e0 (getE_mem hg).1)
 have hs:IntKind.i64.wrap ((e0.f.bytes.length:Int) - a)=(e0.f.bytes.length:Int) - a:=IntWalk.i64_in _ (by omega)
 have hp:IntKind.i64.wrap ((a:Int)+k)=(a:Int)+k:=IntWalk.i64_in _ (by omega)
 clear h hq hg hf hf'
 go_enter Tryz.func75,Tryz.ntmps75
 go_wp2_with (go_at_call 120;refine HC.out.mono ?_)
 rintro e w' ⟨rfl,hb⟩
 have hE:EntAt w' e0:=HE.out.chg (Chg.of_below (S:=fun _=>False) hb) (fun _ _ x=>x)
 have k1:=hE.cells.2.1
 rcases hE.bytes.form with ⟨_,h0⟩|⟨B,cap,cur,hv,hgB,hcap,hmax,hcs,htk⟩
 ·rw [h0] at ha;simp at ha;omega
 ·have hct:∀ c,_:=fun c=>wpart_text (cap:=c) hgB htk ha
  rw [hv] at k1
  unfold pk
  clear hE hv hgB htk hcs
  go_wp2_with fail
  go_ret2
  exact ⟨rfl,hb⟩
theorem hturn_on (b o:Nat) (x now:Int) (w:World) (hc:w.cell? ⟨b,o,none⟩=some (.int .i64 x)) (hz:w.frozen? ⟨b,o,none⟩=false) (h:x<now) (h0:0≤x) (hn:now≤9223372036854775807) :
 Calls Tryz.prog 178 #[.pointer (some ⟨b,o,none⟩),.int .i64 now] w fun e w'=>e = .returned (.bool true)∧w'=w.setCell ⟨b,o,none⟩ (.int .i64 (x+1)):=by
 have hd:decide (now≤x)=false:=decide_eq_false (by omega)
 have e1:IntKind.i64.wrap (x+1)=x+1:=IntWalk.i64_in _ (by omega)
 have hle:¬ now≤x:=by omega
 go_enter Tryz.func178,Tryz.ntmps178
 go_wp2_with fail
 go_ret
 exact ⟨rfl,rfl⟩
theorem refuses_any (wb:Nat) (slot:Int) (w:World):Calls Tryz.prog 74 #[.pointer (some ⟨wb,0,none⟩),.int .i64 slot] w fun e w'=>e = .returned (.int .i64 (if slot<0∨15<slot then 2 else 0))∧w=w':=by
 by_cases h0:slot<0
 ·rw [if_pos (Or.inl h0)]
  have g0:decide (slot<0)=true:=decide_eq_true h0
  go_enter Tryz.func74,Tryz.ntmps74
  go_wp2_with fail
  go_ret
  exact ⟨rfl,rfl⟩
 ·have g0:decide (slot<0)=false:=decide_eq_false h0
  by_cases h1:15<slot
  ·rw [if_pos (Or.inr h1)]
   have g1:decide (16≤slot)=true:=decide_eq_true (by omega)
   have g2:(16:Int)≤slot:=by omega
   go_enter Tryz.func74,Tryz.ntmps74
   go_wp2_with fail
   go_ret
   exact ⟨rfl,rfl⟩
  ·rw [if_neg (by omega)]
   have g1:decide (16≤slot)=false:=decide_eq_false (by omega)
   have g2:¬ (16:Int)≤slot:=by omega
   go_enter Tryz.func74,Tryz.ntmps74
   go_wp2_with fail
   go_ret
   exact ⟨rfl,rfl⟩
end Go.Proofs.YtajmeimjaapagaaGreatDoor
namespace Go.Proofs.YtajmeimjaapagaaGreatDoor
open Go.RowKit Go.Deep
attribute [local go_sem] fr_opt
structure WhI (w0 w:World) (wb:Nat) (g:Gh) (st:St) (n:Nat) (hd:Int) (L:List Nat):Prop where
 disk:DiskAt w g st
 chg:Chg (fun _=>False) w0 w
 glow:∀ k∈g.fp,w0.heap.size≤k
 ease:Ease n st
 cell:w.heap[wb]? = some (.cells #[.pointer (some ⟨g.d,0,none⟩),.int .i64 hd] 135 (0,0))
 low:w0.heap.size≤wb
 out:wb∉g.fp
 file:∃ f,st.find wS=some f∧f.bytes=wbytes L
 len:L.length=16
 ok:∀ x∈L,x<281474976710656
theorem WhI.lt {w0 w:World} {wb:Nat} {g:Gh} {st:St} {n:Nat} {hd:Int} {L:List Nat} (h:WhI w0 w wb g st n hd L):wb<w.heap.size:=(Array.getElem?_eq_some_iff.1 h.cell).1
theorem WhI.chgd {w0 w w':World} {S:Nat→Prop} {wb:Nat} {g:Gh} {st:St} {n:Nat} {hd:Int} {L:List Nat} (h:WhI w0 w wb g st n hd L) (hc:Chg S w w') (hx:¬ S wb) (hS:∀ q∈g.fp,¬ S q) (h0:∀ q,q<w0.heap.size→¬ S q):WhI w0 w' wb g st n hd L:=
 ⟨h.disk.chg hc hS,h.chg.trans hc (fun i hi hs=>h0 i hi hs),h.glow,h.ease,hc.heap h.cell hx,h.low,h.out,h.file,h.len,h.ok⟩
theorem WhI.new {w0 w w':World} {wb:Nat} {g:Gh} {st:St} {n:Nat} {hd:Int} {L:List Nat} (h:WhI w0 w wb g st n hd L) (hc:Chg (fun _=>False) w w'):WhI w0 w' wb g st n hd L:=h.chgd hc (fun x=>x) (fun _ _ x=>x) (fun _ _ x=>x)
theorem WhI.cells {w0 w:World} {wb:Nat} {g:Gh} {st:St} {n:Nat} {hd:Int} {L:List Nat} (h:WhI w0 w wb g st n hd L):w.cell? ⟨wb,0,none⟩=some (.pointer (some ⟨g.d,0,none⟩))∧w.cell? ⟨wb,1,none⟩=some (.int .i64 hd)∧∀ i,w.frozen? ⟨wb,i,none⟩=false:=by
 have h:=h.cell
 refine ⟨?_,?_,fun i=>?_⟩<;>simp [World.cell?,World.frozen?,h]
theorem WhI.below {w0 w:World} {wb:Nat} {g:Gh} {st:St} {n:Nat} {hd:Int} {L:List Nat} (h:WhI w0 w wb g st n hd L):Below w0.heap.size w0 w:=h.chg.below (fun _ _ e=>e.elim) (Nat.le_refl _)
theorem WhI.turned {w0 w:World} {wb:Nat} {g:Gh} {st:St} {n:Nat} {hd:Int} {L:List Nat} (h:WhI w0 w wb g st n hd L) (x:Int) :
 WhI w0 (w.setCell ⟨wb,1,none⟩ (.int .i64 x)) wb g st n x L∧Chg (fun q=>q=wb) w (w.setCell ⟨wb,1,none⟩ (.int .i64 x)):=by
 have hset:Chg (fun q=>q=wb) w (w.setCell ⟨wb,1,none⟩ (.int .i64 x)):=Chg.setCell (S:=fun q=>q=wb) (p:=⟨wb,1,none⟩) (Chg.refl _ _) (fun _=>rfl) _
 refine ⟨⟨h.disk.chg hset (fun q hq hx=>h.out (hx▸hq)),h.chg.trans hset (fun i hi hx=>by have:=h.low;omega),h.glow,h.ease,?_,h.low,h.out,h.file,h.len,h.ok⟩,hset⟩
 exact heap_setCell_same w wb 1 _ _ (.int .i64 x) h.cell
theorem hand_any {w0 w:World} {wb:Nat} {g:Gh} {st:St} {n:Nat} {hd:Int} {L:List Nat} (h:WhI w0 w wb g st n hd L) :
 Calls Tryz.prog 34 #[.pointer (some ⟨wb,0,none⟩)] w fun e w'=>e = .returned (.int .i64 hd)∧w=w':=by
 obtain ⟨c0,c1,hz⟩:=h.cells
 clear h c0 hz
 go_enter Tryz.func34,Tryz.ntmps34
 go_wp2_with fail
 go_ret
 exact ⟨rfl,rfl⟩
theorem turn_on {w0 w:World} {wb:Nat} {g:Gh} {st:St} {n:Nat} {hd:Int} {L:List Nat} (h:WhI w0 w wb g st n hd L) (now:Int) (hlt:hd<now) (h0:0≤hd) (hn:now≤9223372036854775807) :
 Calls Tryz.prog 131 #[.pointer (some ⟨wb,0,none⟩),.int .i64 now] w fun e w'=>e = .returned (.tuple #[.int .i64 (hd+1),.bool true])∧WhI w0 w' wb g st n (hd+1) L∧Chg (fun q=>q=wb) w w':=by
 obtain ⟨c0,c1,hz⟩:=h.cells
 obtain ⟨r1,r2⟩:=h.turned (hd+1)
 have HT:=Lib.hid (hturn_on wb 1 hd now w c1 (hz 1) hlt h0 hn)
 have k1:(w.setCell ⟨wb,1,none⟩ (.int .i64 (hd+1))).cell? ⟨wb,1,none⟩=some (.int .i64 (hd+1)):=r1.cells.2.1
 obtain ⟨W1,hW1⟩:∃ W,W=w.setCell ⟨wb,1,none⟩ (.int .i64 (hd+1)):=⟨_,rfl⟩
 rw [←hW1] at HT r1 r2 k1
 have HR:=Lib.hid (And.intro r1 r2)
 clear h hz r1 r2 hW1 hlt h0 hn c0
 obtain ⟨x,hx⟩:∃ x,x=hd+1:=⟨_,rfl⟩
 rw [←hx] at HR k1 ⊢
 clear hx
 go_enter Tryz.func131,Tryz.ntmps131
 go_wp2_with fail
 refine HT.out.mono ?_
 rintro e w1 ⟨rfl,rfl⟩
 go_wp2_with fail
 go_ret2
 exact ⟨rfl,HR.out⟩
end Go.Proofs.YtajmeimjaapagaaGreatDoor
