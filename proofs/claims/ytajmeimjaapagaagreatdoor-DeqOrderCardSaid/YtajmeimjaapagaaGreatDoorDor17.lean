/- A part. -/
import Derived.Lib.AppendZerosOnto
import Derived.Test.YtajmeimjaapagaaGreatDoorDor12
set_option linter.unusedVariables false
set_option linter.unusedSimpArgs false
namespace Go.Proofs.YtajmeimjaapagaaGreatDoor
open Go.RowKit Go.Deep
theorem info_u8:(Tryz.prog.info? 5).map (fun i=>(i.zero,i.size,i.bytes))=some (some (.int .u8 0),1,1):=by kernel_rfl
def Grown (w:World) (v:Value) (xs:List UInt8) (m:Nat) (e:Ending) (w':World):Prop:=
 ∃ g cap cur,e = .returned (.slice (some ⟨g,0,none⟩) xs.length cap)∧w'.heap[g]? = some (.cells cur 5 (0,0))∧m≤cap∧cap≤maxLen∧cur.size=cap∧cur.toList.take xs.length=xs.map by8 ∧
  w.grownBy w' none∧(v.ownBlock=some g∨g=w.heap.size)
theorem grow_room (g l c n:Nat) (w:World) (hlc:l≤c) (hc63:c≤9223372036854775807) (hn63:n≤9223372036854775807) (hroom:l+n≤c) :
 Calls Tryz.prog 207 #[.slice (some ⟨g,0,none⟩) l c,.int .i64 n] w fun e w'=>e = .returned (.slice (some ⟨g,0,none⟩) l c)∧w=w':=by
 have h1:¬ ((n:Int)<0):=by omega
 have h2:wrap64 ((c:Int) - (l:Int))=(c:Int) - (l:Int):=by unfold wrap64;omega
 have h3:wrap64 ((n:Int) - ((c:Int) - (l:Int)))=(n:Int) - ((c:Int) - (l:Int)):=by unfold wrap64;omega
 have h4:¬ ((n:Int) - ((c:Int) - (l:Int)) > 0):=by omega
 go_enter Tryz.func207,Tryz.ntmps207
 go_wp2
 go_ret
 exact ⟨rfl,rfl⟩
set_option maxHeartbeats 1000000 in
theorem grow_more (base:Option Addr) (l c n:Nat) (cs:List Value) (w:World) (hlc:l≤c) (hroom:c<l+n) (hbig:l+n≤1099511627776)
 (hcl:cs.length=c) (hnil:base=none→c=0) (hcs:∀ a,base=some a→∀ j v,cs[j]? = some v→w.cell? (a.add j)=some v) :
 Calls Tryz.prog 207 #[.slice base l c,.int .i64 n] w fun e w'=>
  e = .returned (.slice (some ⟨w.heap.size,0,none⟩) l (grownCap w (l+n) c 5)) ∧
  w'=w.drew.alloc (.cells (cs.toArray ++ Builtin.zeroCells #[.int .u8 0] (l+n - c) ++ Builtin.zeroCells #[.int .u8 0] (grownCap w (l+n) c 5 - (l+n))) 5):=by
 obtain ⟨i0,hi,hz0,hz1,hz2⟩:=info_parts info_u8
 have h1:¬ ((n:Int)<0):=by omega
 have h2:wrap64 ((c:Int) - (l:Int))=(c:Int) - (l:Int):=by unfold wrap64;omega
 have h3:wrap64 ((n:Int) - ((c:Int) - (l:Int)))=(n:Int) - ((c:Int) - (l:Int)):=by unfold wrap64;omega
 have h4:(n:Int) - ((c:Int) - (l:Int)) > 0:=by omega
 have hck:c+(l+n - c)=l+n:=by omega
 have hold:(Builtin.firstCells i0.size c (.slice base c c)).run Tryz.prog w.drew = .ok cs.toArray w.drew:=by
  cases base with
  | none=>
   have h0:=hnil rfl
   subst h0
   have hc0:cs=[]:=List.length_eq_zero_iff.1 hcl
   rw [hc0]
   exact run_firstCells_none (P:=Tryz.prog) w.drew i0.size 0 0 0
  | some a=>exact run_firstCells_some (P:=Tryz.prog) w.drew i0.size c a c c cs (by rw [hz1];omega) (fun j v hj=>hcs a rfl j v hj)
 have hrz:∀ ty,(Builtin.append_ #[65,3] ty #[.slice base c c,.int .i64 ((n:Int) - ((c:Int) - (l:Int)))]).run Tryz.prog w =
  .ok (.slice (some ⟨w.heap.size,0,none⟩) (l+n) (grownCap w (l+n) c 5)) (w.drew.alloc (.cells (cs.toArray ++ Builtin.zeroCells #[.int .u8 0] (l+n - c) ++ Builtin.zeroCells #[.int .u8 0] (grownCap w (l+n) c 5 - (l+n))) 5)):=fun ty=>by
  have h:=Lib.run_append_grow_zeros w 65 3 ty 5 i0 (.int .u8 0) .i64 .i64 Tryz.underlying65 Tryz.underlying3 hi hz0 base c c cs hold (l+n - c) (by omega) (by omega) (by omega) (by omega)
   (by rw [hz2];omega)
   (by rw [hck];exact growslice_fits hroom (by rw [hz2];omega))
  rw [hck] at h
  rw [show (n:Int) - ((c:Int) - (l:Int))=((l+n - c:Nat):Int) by omega]
  exact h
 have hGn:l+n≤grownCap w (l+n) c 5:=grownCap_ge w _ _ _
 obtain ⟨G,hG⟩:∃ G,G=grownCap w (l+n) c 5:=⟨_,rfl⟩
 rw [←hG] at hrz hGn ⊢
 have hG63:G≤9223372036854775807:=by
  have:=grownCap_le_maxLen w (l+n) c 5 (by unfold maxLen;omega)
  rw [←hG] at this
  unfold maxLen at this
  omega
 clear hold hck hG hcs hcl hi hz0 hz1 hz2
 go_enter Tryz.func207,Tryz.ntmps207
 cases base with
 | none=>
  have h0:=hnil rfl
  subst h0
  obtain rfl:l=0:=by omega
  go_wp2_with (at_builtin;refine Lib.wpList_append_run _ rfl _ _ _ _ rfl _ _ rfl rfl _ _ (hrz _) ?_)
  all_goals (go_ret;exact ⟨rfl,rfl⟩)
 | some a=>
  obtain ⟨ab,ao,asp⟩:=a
  go_wp2_with (at_builtin;refine Lib.wpList_append_run _ rfl _ _ _ _ rfl _ _ rfl rfl _ _ (hrz _) ?_)
  all_goals (go_ret;exact ⟨rfl,rfl⟩)
theorem zeroCells_size (z:Value) (n:Nat):(Builtin.zeroCells #[z] n).size=n:=by simp [Builtin.zeroCells]
theorem grow_any (v:Value) (xs:List UInt8) (n:Nat) (w:World) (h:BytesAt w v xs) (hn:0<n) (hbig:xs.length+n≤1099511627776) :
 Calls Tryz.prog 207 #[v,.int .i64 n] w (Grown w v xs (xs.length+n)):=by
 rcases h.form with ⟨rfl,rfl⟩|⟨g,cap,cur,rfl,hg,h1,h2,h3,h4⟩
 ·refine (grow_more none 0 0 n [] w (Nat.le_refl _) (by omega) (by simpa using hbig) rfl (fun _=>rfl) (fun a ha=>by cases ha)).mono fun e w' ⟨he,hw⟩=>?_
  subst hw
  have hge:=grownCap_ge w (0+n) 0 5
  have hle:=grownCap_le_maxLen w (0+n) 0 5 (by unfold maxLen;omega)
  refine ⟨w.heap.size,_,_,he,heap_alloc_new w.drew _,by simpa using hge,hle,?_,by simp,⟨rfl,rfl,rfl,by simp,fun k hk _=>Below.heap_alloc w.drew _ k hk⟩,.inr rfl⟩
  simp only [Array.size_append,zeroCells_size,List.size_toArray,List.length_nil]
  omega
 ·by_cases hr:xs.length+n≤cap
  ·unfold maxLen at h2
   refine (grow_room g xs.length cap n w h1 h2 (by omega) hr).mono fun e w' ⟨he,hw⟩=>?_
   subst hw
   exact ⟨g,cap,cur,he,hg,hr,by unfold maxLen;omega,h3,h4,⟨rfl,rfl,rfl,Nat.le_refl _,fun _ _ _=>rfl⟩,.inl rfl⟩
  ·refine (grow_more (some ⟨g,0,none⟩) xs.length cap n cur.toList w h1 (by omega) hbig (by simpa using h3) (fun e=>by cases e) (fun a ha j u hu=>?_)).mono fun e w' ⟨he,hw⟩=>?_
   ·cases ha
    rw [add_none]
    have:cur[j]? = some u:=by simpa using hu
    simp [World.cell?,hg,this]
   ·subst hw
    have hge:=grownCap_ge w (xs.length+n) cap 5
    have hle:=grownCap_le_maxLen w (xs.length+n) cap 5 (by unfold maxLen;omega)
    refine ⟨w.heap.size,_,_,he,heap_alloc_new w.drew _,hge,hle,?_,?_,⟨rfl,rfl,rfl,by simp,fun k hk _=>Below.heap_alloc w.drew _ k hk⟩,.inr rfl⟩
    ·simp only [Array.size_append,zeroCells_size,List.size_toArray,Array.length_toList]
     omega
    ·simp only [Array.toList_append,List.append_assoc]
     rw [List.take_append_of_le_length (by simp;omega)]
     exact h4
def putB (b:List UInt8) (at_:Nat) (s:List UInt8):List UInt8:=
 if s=[] then b else (b ++ List.replicate (at_+s.length - b.length) 0).take at_ ++ s ++ (b ++ List.replicate (at_+s.length - b.length) 0).drop (at_+s.length)
theorem putB_nil (b:List UInt8) (a:Nat):putB b a []=b:=by simp [putB]
theorem putB_length (b:List UInt8) (a:Nat) (s:List UInt8) (hs:s≠[]):(putB b a s).length=max b.length (a+s.length):=by
 simp [putB,hs]
 omega
theorem putB_le (b:List UInt8) (a:Nat) (s:List UInt8):(putB b a s).length≤max b.length (a+s.length):=by
 by_cases hs:s=[]
 ·rw [hs,putB_nil];omega
 ·rw [putB_length _ _ _ hs];omega
theorem take3 {α:Type} (A B C:List α) {m:Nat} (h:A.length+B.length≤m):(A ++ (B ++ C)).take m=A ++ (B ++ C.take (m - (A.length+B.length))):=by
 rw [List.take_append,List.take_of_length_le (l:=A) (by omega),List.take_append,List.take_of_length_le (l:=B) (by omega)]
 congr 3
 omega
theorem splice_take {cur:List Value} {ys s:List UInt8} {a m:Nat} (hm:ys.length=m) (h:cur.take m=ys.map by8) (ha:a+s.length≤m) (hc:m≤cur.length) :
 (splice cur a (s.map by8)).take m=(ys.take a ++ s ++ ys.drop (a+s.length)).map by8:=by
 unfold splice
 have e1:cur.take a=(ys.take a).map by8:=by
  rw [List.map_take,←h,List.take_take]
  congr 1
  omega
 have e2:(cur.drop (a+s.length)).take (m - (a+s.length))=(ys.drop (a+s.length)).map by8:=by
  rw [List.map_drop,←h,List.drop_take]
 have l1:(cur.take a).length=a:=by rw [List.length_take];omega
 rw [List.map_append,List.map_append,←e1,←e2,List.append_assoc,List.length_map,take3 _ _ _ (by rw [l1,List.length_map];exact ha),l1,List.length_map]
def PutTo (w:World) (v:Value) (ys:List UInt8) (e:Ending) (w':World):Prop:=
 ∃ v',e = .returned v'∧BytesAt w' v' ys∧w.grownBy w' v.ownBlock∧(v'.ownBlock=v.ownBlock∨∃ g,v'.ownBlock=some g∧w.heap.size≤g)
theorem zero_u8 (w:World):(zeroValue 5).run Tryz.prog w = .ok (.int .u8 0) w:=by kernel_rfl
theorem size_u8:(Tryz.prog.info? 5).map (·.size)=some 1:=by kernel_rfl
theorem BytesAt.slice {w:World} {v:Value} {xs:List UInt8} (h:BytesAt w v xs):∃ p c,v = .slice p xs.length c:=by
 rcases h.form with ⟨rfl,rfl⟩|⟨g,cap,cur,rfl,_⟩
 ·exact ⟨_,_,rfl⟩
 ·exact ⟨_,_,rfl⟩
theorem splice_end {α:Type} {cur Z:List α} {m:Nat} (h:m≤cur.length):(splice cur m Z).take (m+Z.length)=cur.take m ++ Z:=by
 unfold splice
 have l1:(cur.take m).length=m:=by rw [List.length_take];omega
 rw [take3 _ _ _ (by rw [l1];exact Nat.le_refl _),l1]
 simp
theorem grown_put {w w':World} {g:Nat} {row:Option Nat} (h:w.grownBy w' (some g)) (hl:row=some g∨g=w.heap.size):w.grownBy w' row:=by
 rcases hl with rfl|rfl
 ·exact h
 ·exact ⟨h.os,h.tape,h.output,h.size,fun k hk _=>h.block k hk (by intro e;cases e;omega)⟩
theorem put_end {w w2:World} {v:Value} {ys:List UInt8} {g m cap:Nat} {cs:List Value} (hy:ys.length=m) (hg:w2.heap[g]? = some (.cells cs.toArray 5 (0,0))) (hgr:w.grownBy w2 v.ownBlock) (h1:m≤cap) (h2:cap≤9223372036854775807) (h3:cs.length=cap)
 (h4:cs.take m=ys.map by8) (hl:v.ownBlock=some g∨w.heap.size≤g):PutTo w v ys (.returned (.slice (some ⟨g,0,none⟩) m cap)) w2:=by
 subst hy
 exact ⟨_,rfl,BytesAt.mk hg h1 (by unfold maxLen;exact h2) (by simpa using h3) (by simpa using h4),hgr,hl.elim (fun e=>.inl e.symm) (fun e=>.inr ⟨g,rfl,e⟩)⟩
theorem grow_int (v:Value) (xs:List UInt8) (k:Int) (n:Nat) (w:World) (h:BytesAt w v xs) (hn:0<n) (hbig:xs.length+n≤1099511627776) (hk:k=n) :
 Calls Tryz.prog 207 #[v,.int .i64 k] w (Grown w v xs (xs.length+n)):=hk▸grow_any v xs n w h hn hbig
set_option maxHeartbeats 1000000 in
set_option maxRecDepth 100000 in
theorem put_any (v:Value) (xs:List UInt8) (a:Nat) (s:ByteArray) (w:World) (h:BytesAt w v xs) (hx:xs.length≤1099511627776) (ha:a+s.size≤1099511627776) :
 Calls Tryz.prog 173 #[v,.int .i64 a,.string s] w (PutTo w v (putB xs a s.data.toList)):=by
 have hl:s.data.toList.length=s.size:=by rw [Array.length_toList];rfl
 by_cases hs:s.size=0
 ·have hs0:s.data.toList=[]:=List.length_eq_zero_iff.1 (by omega)
  have hs1:s.toList.isEmpty=true:=by rw [ByteArray.toList_eq,hs0];rfl
  have hs2:s.toList=[]:=by rw [ByteArray.toList_eq,hs0]
  rw [hs0,putB_nil]
  have H:=Lib.hid h
  clear h hs0 hl hs
  go_enter Tryz.func173,Tryz.ntmps173
  go_wp2_with fail
  go_ret
  exact ⟨v,rfl,H.out,grownBy_refl _ _,.inl rfl⟩
 ·have hsne:s.data.toList≠[]:=fun e=>hs (by rw [←hl,e];rfl)
  have hs1:s.toList.isEmpty=false:=by rw [ByteArray.toList_eq];simpa using hsne
  have hs2:¬ s.toList=[]:=by rw [ByteArray.toList_eq];exact hsne
  by_cases hend:a+s.size≤xs.length
  ·rcases h.form with ⟨rfl,rfl⟩|⟨g,cap,cur,rfl,hg,h1,h2,h3,h4⟩
   ·exfalso;simp only [List.length_nil] at hend;omega
   ·have e:putB xs a s.data.toList=xs.take a ++ s.data.toList ++ xs.drop (a+s.data.toList.length):=by
     rw [putB,if_neg hsne,hl,show a+s.size - xs.length=0 by omega]
     simp
    rw [e]
    have h5:=splice_take (s:=s.data.toList) (a:=a) rfl h4 (by omega) (by simp;omega)
    have HG:=Lib.hid hg
    have H5:=Lib.hid h5
    have HL:=Lib.hid hl
    obtain ⟨m,hm⟩:∃ m,m=xs.length:=⟨_,rfl⟩
    obtain ⟨ys,hys⟩:∃ ys,ys=xs.take a ++ s.data.toList ++ xs.drop (a+s.data.toList.length):=⟨_,rfl⟩
    have hym:ys.length=m:=by rw [hys,hm];simp;omega
    rw [←hys] at H5 ⊢
    rw [←hm] at H5 hend hx h1 ⊢
    have HY:=Lib.hid hym
    have HM:=Lib.hid hm
    have hsz:cur.toList.length=cap:=by simpa using h3
    have HS:=Lib.hid hsz
    unfold maxLen at h2
    have hca:¬ (cap=a):=by omega
    clear hg h5 hl h h3 h4 hsne hs hys hym hm hsz e
    go_enter Tryz.func173,Tryz.ntmps173
    go_wp2_with (with_reducible refine wpList_copy_text rfl (.tmp 33) (.tmp 34) 65 9 rfl 5 Tryz.underlying65 size_u8 g a (m - a) (cap - a) rfl s rfl ?c1 cur.toList 5 ?c2 ?c3 ?c4)
    case c1=>omega
    case c2=>exact HG.out
    case c3=>rw [HS.out];omega
    case c4=>
     intro w2 H2 HG2 _
     go_wp2_with fail
     go_ret
     exact put_end HY.out H2.out HG2.out h1 h2 (by rw [length_splice _ _ _ (by rw [List.length_map,HS.out,HL.out];omega)];exact HS.out) H5.out (.inl rfl)
  ·obtain ⟨n,hn⟩:∃ n,a+s.size=xs.length+n:=⟨a+s.size - xs.length,by omega⟩
   obtain ⟨m,hm⟩:∃ m,m=xs.length:=⟨_,rfl⟩
   have hput:putB xs a s.data.toList=(xs ++ List.replicate n 0).take a ++ s.data.toList ++ (xs ++ List.replicate n 0).drop (a+s.data.toList.length):=by
    rw [putB,if_neg hsne,hl,show a+s.size - xs.length=n by omega]
   have hyl:(putB xs a s.data.toList).length=a+s.size:=by
    rw [putB_length _ _ _ hsne,hl];omega
   obtain ⟨ys,hys⟩:∃ ys,ys=putB xs a s.data.toList:=⟨_,rfl⟩
   rw [←hys] at hput hyl ⊢
   obtain ⟨p,c,hv⟩:=h.slice
   rw [←hm] at hv
   subst hv
   have H:=Lib.hid h
   have HP:=Lib.hid hput
   have HY:=Lib.hid hyl
   have HL:=Lib.hid hl
   have HM:=Lib.hid hm
   rw [←hm] at hx hend hn
   have HN:=Lib.hid hn
   have hn1:(m:Int)<(a:Int)+s.size:=by omega
   have hn0:0<n:=by omega
   have hsp:0<s.size:=by omega
   clear h hput hyl hl hys hs hsne hm hn
   go_enter Tryz.func173,Tryz.ntmps173
   go_wp2_with (go_at_call 207;refine (grow_int _ xs _ n w H.out hn0 (by have:=HN.out;have:=HM.out;omega) (by have:=HN.out;have:=HM.out;omega)).mono ?_)
   rintro e w1 ⟨g,cap,cur,rfl,hg,hc,hcm,hcs,htk,hgr,hloc⟩
   have HGB:=Lib.hid hg
   have HCS:=Lib.hid hcs
   have HTK:=Lib.hid htk
   have HGR:=Lib.hid hgr
   have HLOC:=Lib.hid hloc
   have hc2:a+s.size≤cap:=by have:=HN.out;have:=HM.out;omega
   unfold maxLen at hcm
   rw [←HM.out]
   clear hg hcs htk hgr hloc hc
   go_wp2_with (with_reducible refine wpList_clear_row rfl (.tmp 30) 65 rfl 5 Tryz.underlying65 (.int .u8 0) zero_u8 rfl rfl g m (a+s.size - m) (cap - m) ?c1 rfl cur.toList 5 ?c2 ?c3 ?c4)
   case c1=>omega
   case c2=>exact HGB.out
   case c3=>have:=HCS.out;simp only [Array.length_toList];omega
   case c4=>
    intro w2 H2 HG2 _
    have hac:¬ (cap=a):=by omega
    go_wp2_with (with_reducible refine wpList_copy_text rfl (.tmp 33) (.tmp 34) 65 9 rfl 5 Tryz.underlying65 size_u8 g a s.size (cap - a) rfl s rfl ?c5 (splice cur.toList m (List.replicate (a+s.size - m) (.int .u8 0))) 5 ?c6 ?c7 ?c8)
    case c5=>exact Nat.le_refl _
    case c6=>exact H2.out
    case c7=>rw [length_splice _ _ _ (by have:=HCS.out;simp;omega)];have:=HCS.out;simp only [Array.length_toList];omega
    case c8=>
     intro w3 H3 HG3 _
     go_wp2_with fail
     go_ret
     have hmn:m+n=a+s.size:=HN.out.symm
     have hnn:a+s.size - m=n:=by omega
     have h6:=H3.out
     rw [hnn] at h6
     have hcz:cur.toList.length=cap:=by rw [Array.length_toList];exact HCS.out
     have hz1:(splice cur.toList m (List.replicate n (Value.int .u8 0))).length=cap:=by rw [length_splice _ _ _ (by rw [List.length_replicate];omega)];exact hcz
     have h7:(splice cur.toList m (List.replicate n (Value.int .u8 0))).take (a+s.size)=(xs ++ List.replicate n 0).map by8:=by
      have h8:=splice_end (cur:=cur.toList) (Z:=List.replicate n (Value.int .u8 0)) (m:=m) (by omega)
      rw [List.length_replicate,hmn] at h8
      rw [h8,List.map_append,List.map_replicate]
      have h9:=HTK.out
      rw [←HM.out] at h9
      rw [h9]
      rfl
     have hlx:(xs ++ List.replicate n (0:UInt8)).length=a+s.size:=by rw [List.length_append,List.length_replicate,←HM.out];exact hmn
     refine put_end HY.out h6 (grown_put (grownBy_trans (grownBy_wide HGR.out (some g)) (grownBy_trans HG2.out HG3.out)) (HLOC.out)) hc2 hcm ?_ ?_ ?_
     ·rw [length_splice _ _ _ (by rw [hz1,List.length_map,HL.out];exact hc2)]
      exact hz1
     ·rw [HP.out]
      exact splice_take hlx h7 (by rw [HL.out];exact Nat.le_refl _) (by rw [hz1];exact hc2)
     ·exact HLOC.out.elim .inl (fun e=>.inr (by omega))
structure WriteM where
 turn:Int
 at_:Nat
 s:ByteArray
structure FileM where
 image:List UInt8
 bytes:List UInt8
 writes:List WriteM
structure Ent where
 name:ByteArray
 blk:Nat
 vi:Value
 vb:Value
 vw:Value
 f:FileM
def wcells (x:WriteM):List Value:=[.int .i64 x.turn,.int .i64 x.at_,.string x.s]
theorem wcells_length (x:WriteM):(wcells x).length=3:=rfl
def WritesAt (w:World) (v:Value) (ws:List WriteM):Prop:=w.ownsRow 0 199 3 v ws.length (ws.flatMap wcells)
def Ent.foot (e:Ent):List Nat:=e.blk :: (e.vi.ownBlock.toList ++ (e.vb.ownBlock.toList ++ e.vw.ownBlock.toList))
structure EntAt (w:World) (e:Ent):Prop where
 head:w.heap[e.blk]? = some (.cells #[e.vi,e.vb,e.vw] 185 (0,0))
 image:BytesAt w e.vi e.f.image
 bytes:BytesAt w e.vb e.f.bytes
 writes:WritesAt w e.vw e.f.writes
 apart:e.foot.Nodup
theorem mem_foot_blk (e:Ent):e.blk∈e.foot:=List.mem_cons_self ..
theorem mem_foot_vi (e:Ent) {g:Nat} (h:e.vi.ownBlock=some g):g∈e.foot:=by simp [Ent.foot,h]
theorem mem_foot_vb (e:Ent) {g:Nat} (h:e.vb.ownBlock=some g):g∈e.foot:=by simp [Ent.foot,h]
theorem mem_foot_vw (e:Ent) {g:Nat} (h:e.vw.ownBlock=some g):g∈e.foot:=by simp [Ent.foot,h]
theorem EntAt.chg {S:Nat→Prop} {w w':World} {e:Ent} (h:EntAt w e) (hc:Chg S w w') (hn:∀ k∈e.foot,¬ S k):EntAt w' e:=
 ⟨hc.heap h.head (hn _ (mem_foot_blk e)),hc.bytes h.image fun g hg=>hn g (mem_foot_vi e hg),hc.bytes h.bytes fun g hg=>hn g (mem_foot_vb e hg),hc.row h.writes fun g hg=>hn g (mem_foot_vw e hg),h.apart⟩
theorem EntAt.drew {w:World} {e:Ent} (h:EntAt w e):EntAt w.drew e:=⟨h.head,h.image,h.bytes,h.writes,h.apart⟩
theorem own_lt {w:World} {base:Nat} {e:TypeId} {size:Nat} {v:Value} {n:Nat} {xs:List Value} (h:w.ownsRow base e size v n xs) {g:Nat} (hg:v.ownBlock=some g):g<w.heap.size:=(h.lt g hg).2
theorem EntAt.lt {w:World} {e:Ent} (h:EntAt w e):∀ k∈e.foot,k<w.heap.size:=by
 intro k hk
 simp only [Ent.foot,List.mem_cons,List.mem_append,Option.mem_toList] at hk
 rcases hk with rfl|hk|hk|hk
 ·exact (Array.getElem?_eq_some_iff.1 h.head).1
 ·exact own_lt h.image hk
 ·exact own_lt h.bytes hk
 ·exact own_lt h.writes hk
theorem foot_iff (e:Ent):e.foot.Nodup↔((∀ g,e.vi.ownBlock=some g→g≠e.blk)∧(∀ g,e.vb.ownBlock=some g→g≠e.blk)∧(∀ g,e.vw.ownBlock=some g→g≠e.blk)) ∧
 (∀ g,e.vi.ownBlock=some g→e.vb.ownBlock≠some g∧e.vw.ownBlock≠some g)∧(∀ g,e.vb.ownBlock=some g→e.vw.ownBlock≠some g):=by
 unfold Ent.foot
 cases e.vi.ownBlock<;>cases e.vb.ownBlock<;>cases e.vw.ownBlock<;>simp<;>grind
theorem foot_vi (e:Ent) (h:e.foot.Nodup) {g:Nat} (hg:e.vi.ownBlock=some g):g≠e.blk∧e.vb.ownBlock≠some g∧e.vw.ownBlock≠some g:=
 have h:=(foot_iff e).1 h
 ⟨h.1.1 g hg,h.2.1 g hg⟩
theorem foot_vb (e:Ent) (h:e.foot.Nodup) {g:Nat} (hg:e.vb.ownBlock=some g):g≠e.blk∧e.vi.ownBlock≠some g∧e.vw.ownBlock≠some g:=
 have h:=(foot_iff e).1 h
 ⟨h.1.2.1 g hg,fun x=>(h.2.1 g x).1 hg,h.2.2 g hg⟩
theorem foot_vw (e:Ent) (h:e.foot.Nodup) {g:Nat} (hg:e.vw.ownBlock=some g):g≠e.blk∧e.vi.ownBlock≠some g∧e.vb.ownBlock≠some g:=
 have h:=(foot_iff e).1 h
 ⟨h.1.2.2 g hg,fun x=>(h.2.1 g x).2 hg,fun x=>h.2.2 g x hg⟩
structure Ent.To (w:World) (e e':Ent) (w':World):Prop where
 at_:EntAt w' e'
 chg:Chg (·∈e.foot) w w'
 foot:∀ k∈e'.foot,k∈e.foot∨w.heap.size≤k
 name:e'.name=e.name
 blk:e'.blk=e.blk
theorem Ent.To.refl {w:World} {e:Ent} (h:EntAt w e):Ent.To w e e w:=⟨h,Chg.refl _ _,fun _ hk=>.inl hk,rfl,rfl⟩
theorem Ent.To.new {w w':World} {e:Ent} (h:EntAt w e) (hc:Chg (fun _=>False) w w'):Ent.To w e e w':=
 ⟨h.chg hc (fun _ _ x=>x),hc.wide (fun _ _ x=>x.elim),fun _ hk=>.inl hk,rfl,rfl⟩
theorem Ent.To.trans {w w1 w2:World} {e e1 e2:Ent} (h:Ent.To w e e1 w1) (k:Ent.To w1 e1 e2 w2):Ent.To w e e2 w2:=by
 have hs:=h.chg.size
 refine ⟨k.at_,h.chg.trans k.chg (fun i hi hx=>?_),fun i hi=>?_,k.name.trans h.name,k.blk.trans h.blk⟩
 ·rcases h.foot i hx with h1|h1
  ·exact h1
  ·omega
 ·rcases k.foot i hi with h1|h1
  ·exact h.foot i h1
  ·exact .inr (by omega)
def FileTo (w:World) (e:Ent) (f:FileM) (w':World):Prop:=∃ e',e'.f=f∧Ent.To w e e' w'
theorem ent_set_image {w w1:World} {e:Ent} {v':Value} {ys:List UInt8} (h:EntAt w e) (hg:w.grownBy w1 e.vi.ownBlock) (hb:BytesAt w1 v' ys) (hl:∀ g,v'.ownBlock=some g→e.vi.ownBlock=some g∨w.heap.size≤g) :
 Ent.To w e { e with vi:=v',f:={ e.f with image:=ys }} (w1.setCell ⟨e.blk,0,none⟩ v'):=by
 have hlt:=h.lt
 obtain ⟨⟨a1,a2,a3⟩,b1,c1⟩:=(foot_iff e).1 h.apart
 have b2:∀ g,e.vb.ownBlock=some g→e.vi.ownBlock≠some g:=fun g hg hx=>(b1 g hx).1 hg
 have b3:∀ g,e.vw.ownBlock=some g→e.vi.ownBlock≠some g:=fun g hg hx=>(b1 g hx).2 hg
 have c2:∀ g,e.vw.ownBlock=some g→e.vb.ownBlock≠some g:=fun g hg hx=>c1 g hx hg
 have n1:=fun g hg=>hlt g (mem_foot_vi e (g:=g) hg)
 have n2:=fun g hg=>hlt g (mem_foot_vb e (g:=g) hg)
 have n3:=fun g hg=>hlt g (mem_foot_vw e (g:=g) hg)
 have n0:=hlt _ (mem_foot_blk e)
 have k1:Chg (fun k=>some k=e.vi.ownBlock) w w1:=Chg.of_grown hg (fun k hk _=>hk.symm)
 have k2:Chg (fun k=>k=e.blk) w1 (w1.setCell ⟨e.blk,0,none⟩ v'):=Chg.setCell (S:=fun k=>k=e.blk) (Chg.refl _ _) (fun _=>rfl) _
 have hh:w1.heap[e.blk]? = some (.cells #[e.vi,e.vb,e.vw] 185 (0,0)):=k1.heap h.head (fun x=>by first|exact a1 _ x.symm rfl|exact a2 _ x.symm rfl|exact a3 _ x.symm rfl)
 have nb:∀ g,v'.ownBlock=some g→g≠e.blk:=fun g hx=>by
  rcases hl g hx with h1|h1
  ·exact a1 g h1
  ·omega
 refine ⟨⟨?_,?_,?_,?_,?_⟩,?_,?_,rfl,rfl⟩
 ·have:=heap_setCell_same w1 e.blk 0 #[e.vi,e.vb,e.vw] 185 v' hh
  simpa using this
 ·exact k2.bytes hb fun g hx hy=>nb g hx hy
 ·exact k2.bytes (k1.bytes h.bytes fun g hx hy=>(b1 g hy.symm).1 hx) fun g hx hy=>a2 g hx hy
 ·exact k2.row (k1.row h.writes fun g hx hy=>(b1 g hy.symm).2 hx) fun g hx hy=>a3 g hx hy
 ·refine (foot_iff _).2 ?_
  simp only
  grind
 ·refine (Chg.wide k1 (fun i _ hx=>?_)).trans (k2.wide (S':=(·∈e.foot)) (fun i _ hx=>hx▸mem_foot_blk e)) (fun i _ hx=>hx)
  exact mem_foot_vi e hx.symm
 ·intro k hk
  simp only [Ent.foot,List.mem_cons,List.mem_append,Option.mem_toList] at hk
  rcases hk with rfl|hk|hk|hk
  ·exact .inl (mem_foot_blk e)
  ·rcases hl _ hk with h1|h1
   ·exact .inl (mem_foot_vi e h1)
   ·exact .inr h1
  ·exact .inl (mem_foot_vb e hk)
  ·exact .inl (mem_foot_vw e hk)
theorem ent_set_bytes {w w1:World} {e:Ent} {v':Value} {ys:List UInt8} (h:EntAt w e) (hg:w.grownBy w1 e.vb.ownBlock) (hb:BytesAt w1 v' ys) (hl:∀ g,v'.ownBlock=some g→e.vb.ownBlock=some g∨w.heap.size≤g) :
 Ent.To w e { e with vb:=v',f:={ e.f with bytes:=ys }} (w1.setCell ⟨e.blk,1,none⟩ v'):=by
 have hlt:=h.lt
 obtain ⟨⟨a1,a2,a3⟩,b1,c1⟩:=(foot_iff e).1 h.apart
 have b2:∀ g,e.vb.ownBlock=some g→e.vi.ownBlock≠some g:=fun g hg hx=>(b1 g hx).1 hg
 have b3:∀ g,e.vw.ownBlock=some g→e.vi.ownBlock≠some g:=fun g hg hx=>(b1 g hx).2 hg
 have c2:∀ g,e.vw.ownBlock=some g→e.vb.ownBlock≠some g:=fun g hg hx=>c1 g hx hg
 have n1:=fun g hg=>hlt g (mem_foot_vi e (g:=g) hg)
 have n2:=fun g hg=>hlt g (mem_foot_vb e (g:=g) hg)
 have n3:=fun g hg=>hlt g (mem_foot_vw e (g:=g) hg)
 have n0:=hlt _ (mem_foot_blk e)
 have k1:Chg (fun k=>some k=e.vb.ownBlock) w w1:=Chg.of_grown hg (fun k hk _=>hk.symm)
 have k2:Chg (fun k=>k=e.blk) w1 (w1.setCell ⟨e.blk,1,none⟩ v'):=Chg.setCell (S:=fun k=>k=e.blk) (Chg.refl _ _) (fun _=>rfl) _
 have hh:w1.heap[e.blk]? = some (.cells #[e.vi,e.vb,e.vw] 185 (0,0)):=k1.heap h.head (fun x=>by first|exact a1 _ x.symm rfl|exact a2 _ x.symm rfl|exact a3 _ x.symm rfl)
 have nb:∀ g,v'.ownBlock=some g→g≠e.blk:=fun g hx=>by
  rcases hl g hx with h1|h1
  ·exact a2 g h1
  ·omega
 refine ⟨⟨?_,?_,?_,?_,?_⟩,?_,?_,rfl,rfl⟩
 ·have:=heap_setCell_same w1 e.blk 1 #[e.vi,e.vb,e.vw] 185 v' hh
  simpa using this
 ·exact k2.bytes (k1.bytes h.image fun g hx hy=>(b1 g hx).1 hy.symm) fun g hx hy=>a1 g hx hy
 ·exact k2.bytes hb fun g hx hy=>nb g hx hy
 ·exact k2.row (k1.row h.writes fun g hx hy=>c1 g hy.symm hx) fun g hx hy=>a3 g hx hy
 ·refine (foot_iff _).2 ?_
  simp only
  grind
 ·refine (Chg.wide k1 (fun i _ hx=>?_)).trans (k2.wide (S':=(·∈e.foot)) (fun i _ hx=>hx▸mem_foot_blk e)) (fun i _ hx=>hx)
  exact mem_foot_vb e hx.symm
 ·intro k hk
  simp only [Ent.foot,List.mem_cons,List.mem_append,Option.mem_toList] at hk
  rcases hk with rfl|hk|hk|hk
  ·exact .inl (mem_foot_blk e)
  ·exact .inl (mem_foot_vi e hk)
  ·rcases hl _ hk with h1|h1
   ·exact .inl (mem_foot_vb e h1)
   ·exact .inr h1
  ·exact .inl (mem_foot_vw e hk)
theorem ent_set_writes {w w1:World} {e:Ent} {v':Value} {ys:List WriteM} (h:EntAt w e) (hg:w.grownBy w1 e.vw.ownBlock) (hb:WritesAt w1 v' ys) (hl:∀ g,v'.ownBlock=some g→e.vw.ownBlock=some g∨w.heap.size≤g) :
 Ent.To w e { e with vw:=v',f:={ e.f with writes:=ys }} (w1.setCell ⟨e.blk,2,none⟩ v'):=by
 have hlt:=h.lt
 obtain ⟨⟨a1,a2,a3⟩,b1,c1⟩:=(foot_iff e).1 h.apart
 have b2:∀ g,e.vb.ownBlock=some g→e.vi.ownBlock≠some g:=fun g hg hx=>(b1 g hx).1 hg
 have b3:∀ g,e.vw.ownBlock=some g→e.vi.ownBlock≠some g:=fun g hg hx=>(b1 g hx).2 hg
 have c2:∀ g,e.vw.ownBlock=some g→e.vb.ownBlock≠some g:=fun g hg hx=>c1 g hx hg
 have n1:=fun g hg=>hlt g (mem_foot_vi e (g:=g) hg)
 have n2:=fun g hg=>hlt g (mem_foot_vb e (g:=g) hg)
 have n3:=fun g hg=>hlt g (mem_foot_vw e (g:=g) hg)
 have n0:=hlt _ (mem_foot_blk e)
 have k1:Chg (fun k=>some k=e.vw.ownBlock) w w1:=Chg.of_grown hg (fun k hk _=>hk.symm)
 have k2:Chg (fun k=>k=e.blk) w1 (w1.setCell ⟨e.blk,2,none⟩ v'):=Chg.setCell (S:=fun k=>k=e.blk) (Chg.refl _ _) (fun _=>rfl) _
 have hh:w1.heap[e.blk]? = some (.cells #[e.vi,e.vb,e.vw] 185 (0,0)):=k1.heap h.head (fun x=>by first|exact a1 _ x.symm rfl|exact a2 _ x.symm rfl|exact a3 _ x.symm rfl)
 have nb:∀ g,v'.ownBlock=some g→g≠e.blk:=fun g hx=>by
  rcases hl g hx with h1|h1
  ·exact a3 g h1
  ·omega
 refine ⟨⟨?_,?_,?_,?_,?_⟩,?_,?_,rfl,rfl⟩
 ·have:=heap_setCell_same w1 e.blk 2 #[e.vi,e.vb,e.vw] 185 v' hh
  simpa using this
 ·exact k2.bytes (k1.bytes h.image fun g hx hy=>(b1 g hx).2 hy.symm) fun g hx hy=>a1 g hx hy
 ·exact k2.bytes (k1.bytes h.bytes fun g hx hy=>c1 g hx hy.symm) fun g hx hy=>a2 g hx hy
 ·exact k2.row hb fun g hx hy=>nb g hx hy
 ·refine (foot_iff _).2 ?_
  simp only
  grind
 ·refine (Chg.wide k1 (fun i _ hx=>?_)).trans (k2.wide (S':=(·∈e.foot)) (fun i _ hx=>hx▸mem_foot_blk e)) (fun i _ hx=>hx)
  exact mem_foot_vw e hx.symm
 ·intro k hk
  simp only [Ent.foot,List.mem_cons,List.mem_append,Option.mem_toList] at hk
  rcases hk with rfl|hk|hk|hk
  ·exact .inl (mem_foot_blk e)
  ·exact .inl (mem_foot_vi e hk)
  ·exact .inl (mem_foot_vb e hk)
  ·rcases hl _ hk with h1|h1
   ·exact .inl (mem_foot_vw e h1)
   ·exact .inr h1
theorem own_form {v v':Value} {n:Nat} (h:v'.ownBlock=v.ownBlock∨∃ g,v'.ownBlock=some g∧n≤g):∀ g,v'.ownBlock=some g→v.ownBlock=some g∨n≤g:=by
 intro g hg
 rcases h with h|⟨g',h1,h2⟩
 ·exact .inl (h▸hg)
 ·rw [hg] at h1;cases h1;exact .inr h2
theorem EntAt.cells {w:World} {e:Ent} (h:EntAt w e):w.cell? ⟨e.blk,0,none⟩=some e.vi∧w.cell? ⟨e.blk,1,none⟩=some e.vb∧w.cell? ⟨e.blk,2,none⟩=some e.vw∧∀ i,w.frozen? ⟨e.blk,i,none⟩=false:=by
 refine ⟨by simp [World.cell?,h.head],by simp [World.cell?,h.head],by simp [World.cell?,h.head],fun i=>?_⟩
 simp [World.frozen?,h.head]
end Go.Proofs.YtajmeimjaapagaaGreatDoor
/- A part. -/
set_option linter.unusedVariables false
set_option linter.unusedSimpArgs false
namespace Go.Proofs.YtajmeimjaapagaaGreatDoor
open Go.RowKit Go.Deep Go.ChangeMaps Go.WideShapes
open Go.Maps (Keyed)
def pk (b:Nat):Value:=.pointer (some ⟨b,0,none⟩)
def ptrElem:Value→Option (DataW Unit×List MemPlace)
 | .pointer (some ⟨b,0,none⟩)=>some (.lit (.int .i64 b),[])
 | _=>none
theorem ptrElem_inv {v:Value} {y:DataW Unit×List MemPlace} (h:ptrElem v=some y):∃ b:Nat,v=pk b∧y=(.lit (.int .i64 b),[]):=by
 unfold ptrElem at h
 split at h
 ·cases h;exact ⟨_,rfl,rfl⟩
 ·cases h
theorem ptrElem_pk (b:Nat):ptrElem (pk b)=some (.lit (.int .i64 b),[]):=rfl
def pairOf (e:Ent):Lit×DataW Unit:=(.string e.name.data.toList,.lit (.int .i64 e.blk))
theorem name_eq {a b:ByteArray} (h:a.data.toList=b.data.toList):a=b:=ByteArray.ext (Array.toList_inj.1 h)
theorem key_same (e:Ent) (nm:ByteArray):(pairOf e).1.sameKey (.string nm.data.toList)=decide (e.name=nm):=by
 rw [Bool.eq_iff_iff]
 constructor
 ·intro h
  have h':(Lit.string e.name.data.toList) = .string nm.data.toList:=WideAt.sameKey_eq h
  exact decide_eq_true (name_eq (by simpa using h'))
 ·intro h
  obtain rfl:=of_decide_eq_true h
  exact WideAt.sameKey_self trivial
def names (es:List Ent):List ByteArray:=es.map (·.name)
def getE (es:List Ent) (nm:ByteArray):Option Ent:=es.find? fun e=>decide (e.name=nm)
theorem getE_mem {es:List Ent} {nm:ByteArray} {e:Ent} (h:getE es nm=some e):e∈es∧e.name=nm:=
 ⟨List.mem_of_find?_eq_some h,of_decide_eq_true (List.find?_some (p:=fun e:Ent=>decide (e.name=nm)) h)⟩
theorem getE_none {es:List Ent} {nm:ByteArray} (h:getE es nm=none):∀ e∈es,e.name≠nm:=by
 intro e he hx
 have:=(List.find?_eq_none.1 h) e he
 simp [hx] at this
theorem getE_of {es:List Ent} {e:Ent} (hn:(names es).Nodup) (he:e∈es):getE es e.name=some e:=by
 induction es with
 | nil=>cases he
 | cons a es ih=>
  unfold names at hn
  rw [List.map_cons,List.nodup_cons] at hn
  unfold getE
  rw [List.find?_cons]
  rcases List.mem_cons.1 he with rfl|h
  ·simp
  ·have:a.name≠e.name:=fun hx=>hn.1 (hx▸List.mem_map_of_mem h)
   simp [this]
   exact ih hn.2 h
def MapIn (w:World) (mb:Option Nat) (es:List Ent):Prop:=(names es).Nodup∧match mb with
 | none=>es=[]
 | some m=>∃ l,w.ownsMap Tryz.prog 9 ptrElem m es.length (.map l)∧l.Perm (es.map pairOf)
theorem law_key:Keyed Tryz.prog 9:=Go.Maps.string_keyed Tryz.underlying9
theorem zero_file (w:World):(zeroValue 182).run Tryz.prog w = .ok (.pointer none) w:=by kernel_rfl
theorem MapIn.chg {S:Nat→Prop} {w w':World} {mb:Option Nat} {es:List Ent} (h:MapIn w mb es) (hc:Chg S w w') (hn:∀ m,mb=some m→¬ S m):MapIn w' mb es:=by
 refine ⟨h.1,?_⟩
 have h2:=h.2
 cases mb with
 | none=>exact h2
 | some m=>
  obtain ⟨l,⟨ees,clock,hb,r⟩,hp⟩:=h2
  exact ⟨l,⟨ees,clock,hc.heap hb (hn m rfl),r⟩,hp⟩
theorem MapIn.lt {w:World} {m:Nat} {es:List Ent} (h:MapIn w (some m) es):m<w.heap.size:=by
 obtain ⟨_,l,ho,_⟩:=h
 exact ho.lt
theorem MapIn.same {w:World} {mb:Option Nat} {es es':List Ent} (h:MapIn w mb es) (hp:es.map (fun e=>(e.name,e.blk))=es'.map (fun e=>(e.name,e.blk))):MapIn w mb es':=by
 have hn:names es=names es':=by
  have:=congrArg (List.map Prod.fst) hp
  simpa [names,List.map_map,Function.comp_def] using this
 have hq:es.map pairOf=es'.map pairOf:=by
  have e1:pairOf=(fun p:ByteArray×Nat=>((Lit.string p.1.data.toList,DataW.lit (.int .i64 p.2)):Lit×DataW Unit)) ∘ (fun e:Ent=>(e.name,e.blk)):=rfl
  rw [e1,←List.map_map,←List.map_map,hp]
 have hl:es.length=es'.length:=by have:=congrArg List.length hp;simpa using this
 refine ⟨hn▸h.1,?_⟩
 have h2:=h.2
 cases mb with
 | none=>
  have h2:es=[]:=h2
  subst h2
  simp at hl
  exact List.length_eq_zero_iff.1 hl.symm
 | some m=>
  obtain ⟨l,ho,hpm⟩:=h2
  exact ⟨l,hl▸ho,hq▸hpm⟩
theorem ownsMap_tight {w:World} {m n:Nat} {l:List (Lit×DataW Unit)} (h:w.ownsMap Tryz.prog 9 ptrElem m n (.map l)):w.ownsMap Tryz.prog 9 ptrElem m l.length (.map l):=by
 obtain ⟨es,clock,hb,F,hs,hD⟩:=h
 refine ⟨es,clock,hb,F,?_,hD⟩
 injection hD with hD
 rw [hD,length_sorted]
 simp
set_option maxRecDepth 100000 in
theorem MapIn.look {w:World} {mb:Option Nat} {es:List Ent} (h:MapIn w mb es) (nm:ByteArray) (hl:nm.size≤maxLen) :
 (Instr.lookup 126 (.map mb) (.string nm) false).run Tryz.prog w = .ok (.pointer ((getE es nm).map fun e=>⟨e.blk,0,none⟩)) w:=by
 have hkey:keyOf Tryz.prog 9 (.string nm)=some (.string nm.data.toList):=WideMaps.keyOf_string_mk Tryz.underlying9 hl
 have h2:=h.2
 cases mb with
 | none=>
  have h2:es=[]:=h2
  subst h2
  exact Maps.look_nil false law_key Tryz.underlying126 (zero_file w) hkey
 | some m=>
  obtain ⟨l,⟨ees,clock,hb,F,hs,hD⟩,hp⟩:=h2
  have hD':=hD
  injection hD' with hD'
  rcases Maps.fit_look false law_key Tryz.underlying126 (zero_file w) hb F hkey with ⟨hrun,_,hat⟩|⟨e0,y,_,_,hrun,hRv,hat,_⟩
  ·rw [←hD'] at hat
   have hg:getE es nm=none:=by
    cases hq:getE es nm with
    | none=>rfl
    | some e=>
     exfalso
     obtain ⟨hm,rfl⟩:=getE_mem hq
     have hml:pairOf e∈l:=hp.mem_iff.2 (List.mem_map_of_mem hm)
     have h1:=hat .nil
     have h3:l.find? (fun p=>p.1.sameKey (.string e.name.data.toList))=none∨∃ p,l.find? (fun p=>p.1.sameKey (.string e.name.data.toList))=some p:=by
      cases l.find? (fun p=>p.1.sameKey (.string e.name.data.toList)) with
      | none=>exact .inl rfl
      | some p=>exact .inr ⟨p,rfl⟩
     rcases h3 with h3|⟨p,h3⟩
     ·have:=(List.find?_eq_none.1 h3) _ hml
      rw [key_same] at this
      simp at this
     ·have h4:=List.mem_of_find?_eq_some h3
      obtain ⟨e',_,rfl⟩:=List.mem_map.1 (hp.mem_iff.1 h4)
      unfold DataW.atKey at h1
      simp only at h1
      rw [h3] at h1
      cases h1
   rw [hg]
   exact hrun
  ·rw [←hD'] at hat
   obtain ⟨b,hv,rfl⟩:=ptrElem_inv hRv
   have h1:=hat .nil
   unfold DataW.atKey at h1
   simp only at h1
   cases h3:l.find? (fun p=>p.1.sameKey (.string nm.data.toList)) with
   | none=>rw [h3] at h1;cases h1
   | some p=>
    rw [h3] at h1
    have h4:=List.mem_of_find?_eq_some h3
    have h5:p.1.sameKey (.string nm.data.toList)=true:=List.find?_some (p:=fun p:Lit×DataW Unit=>p.1.sameKey (.string nm.data.toList)) h3
    obtain ⟨e,he,rfl⟩:=List.mem_map.1 (hp.mem_iff.1 h4)
    rw [key_same] at h5
    obtain rfl:=of_decide_eq_true h5
    rw [getE_of h.1 he]
    have h6:(DataW.lit (.int .i64 (e.blk:Int)):DataW Unit) = .lit (.int .i64 (b:Int)):=h1
    have h7:e.blk=b:=by injection h6 with h6;injection h6 with _ h6;omega
    rw [hrun,hv,←h7]
    rfl
theorem filter_id {α:Type} {p:α→Bool} {l:List α} (h:∀ x∈l,p x=true):l.filter p=l:=List.filter_eq_self.2 h
def without (es:List Ent) (nm:ByteArray):List Ent:=es.filter fun e=>!decide (e.name=nm)
theorem names_without {es:List Ent} (h:(names es).Nodup) (nm:ByteArray):(names (without es nm)).Nodup:=by
 unfold names without
 exact (List.filter_sublist.map _).nodup h
theorem perm_without {l:List (Lit×DataW Unit)} {es:List Ent} (h:l.Perm (es.map pairOf)) (nm:ByteArray):(l.filter fun p=>!p.1.sameKey (.string nm.data.toList)).Perm ((without es nm).map pairOf):=by
 have h1:=h.filter (fun p=>!p.1.sameKey (.string nm.data.toList))
 rw [List.filter_map] at h1
 have h2:(fun p:Lit×DataW Unit=>!p.1.sameKey (.string nm.data.toList)) ∘ pairOf=fun e=>!decide (e.name=nm):=by
  funext e
  simp only [Function.comp]
  rw [key_same]
 rw [h2] at h1
 exact h1
theorem without_none {es:List Ent} {nm:ByteArray} (h:getE es nm=none):without es nm=es:=filter_id fun e he=>by simp [getE_none h e he]
theorem MapIn.store {w:World} {m:Nat} {es:List Ent} (h:MapIn w (some m) es) (e:Ent) (hl:e.name.size≤maxLen) (hf:getE es e.name=none) (hn:es.length<maxLen) :
 ∃ w',(Instr.mapUpdate 126 (.map (some m)) (.string e.name) (pk e.blk)).run Tryz.prog w = .ok () w'∧MapIn w' (some m) (es ++ [e])∧w.grownBy w' (some m):=by
 have hkey:keyOf Tryz.prog 9 (.string e.name)=some (.string e.name.data.toList):=WideMaps.keyOf_string_mk Tryz.underlying9 hl
 obtain ⟨hnd,l,ho,hp⟩:=h
 obtain ⟨w',hrun,ho',ht⟩:=ho.store law_key Tryz.underlying126 hn hkey (ptrElem_pk e.blk)
 refine ⟨w',hrun,⟨?_,?_⟩,ht.grown⟩
 ·unfold names at hnd ⊢
  rw [List.map_append,List.nodup_append]
  refine ⟨hnd,by simp,?_⟩
  intro a ha b hb hx
  obtain ⟨e',he',rfl⟩:=List.mem_map.1 ha
  simp at hb
  exact getE_none hf e' he' (hx.trans hb)
 ·refine ⟨putKey (.string e.name.data.toList) (.lit (.int .i64 e.blk)) l,?_,?_⟩
  ·rw [List.length_append];exact ho'
  ·refine (insert_perm _ _).trans ?_
   have h1:=perm_without hp e.name
   rw [without_none hf] at h1
   rw [List.map_append]
   exact (h1.cons (pairOf e)).trans (List.perm_append_comm (l₁:=[pairOf e]))
theorem MapIn.drop {w:World} {mb:Option Nat} {es:List Ent} (h:MapIn w mb es) (nm:ByteArray) (hl:nm.size≤maxLen) (ty:TypeId) :
 ∃ w',(Builtin.delete_ #[126,9] ty #[.map mb,.string nm]).run Tryz.prog w = .ok (.tuple #[]) w'∧MapIn w' mb (without es nm)∧w.grownBy w' mb:=by
 have hkey:keyOf Tryz.prog 9 (.string nm)=some (.string nm.data.toList):=WideMaps.keyOf_string_mk Tryz.underlying9 hl
 obtain ⟨hnd,h2⟩:=h
 cases mb with
 | none=>
  have h2:es=[]:=h2
  subst h2
  exact ⟨w,Maps.drop_nil law_key Tryz.underlying126 hkey ty,⟨hnd,rfl⟩,⟨rfl,rfl,rfl,Nat.le_refl _,fun _ _ _=>rfl⟩⟩
 | some m=>
  obtain ⟨l,ho,hp⟩:=h2
  obtain ⟨w',hrun,ho',ht⟩:=ho.drop law_key Tryz.underlying126 hkey ty
  refine ⟨w',hrun,⟨names_without hnd nm,_,?_,perm_without hp nm⟩,ht.grown⟩
  have h3:=ownsMap_tight ho'
  rw [(perm_without hp nm).length_eq,List.length_map] at h3
  exact h3
theorem MapIn.made (w:World):MapIn (w.alloc (.map #[] 0)) (some w.heap.size) []:=
 ⟨List.nodup_nil,[],World.ownsMap_made w _ _ _,List.Perm.refl _⟩
def RangeIn (w:World) (mb:Option Nat) (r:Nat) (es vis rem:List Ent) (cnt:Nat):Prop:=match mb with
 | none=>rem=[]∧vis=[]∧es=[]∧∀ ty,(Instr.next (.pointer (some ⟨r,0,none⟩)) false ty).run Tryz.prog w = .ok (.tuple #[.bool false]) w
 | some m=>(names es).Nodup∧(vis ++ rem).Perm es∧∃ l left,w.ranges Tryz.prog 9 ptrElem m r es.length (.map l) left cnt∧l.Perm (es.map pairOf)∧∀ nm:ByteArray,left (.string nm.data.toList)=rem.any fun e=>decide (e.name=nm)
theorem RangeIn.kept {w w':World} {m r:Nat} {es vis rem:List Ent} {cnt:Nat} (h:RangeIn w (some m) r es vis rem cnt) {S:Nat→Prop} (hc:Chg S w w') (h1:¬ S m) (h2:¬ S r):RangeIn w' (some m) r es vis rem cnt:=by
 obtain ⟨hn,hp,l,left,hr,hl,hf⟩:=h
 refine ⟨hn,hp,l,left,?_,hl,hf⟩
 obtain ⟨es',clock,since,seen,c0,hb,F,hs,hD,hit,rest⟩:=hr
 exact ⟨es',clock,since,seen,c0,hc.heap hb h1,F,hs,hD,hc.heap hit h2,rest⟩
theorem RangeIn.done {w:World} {mb:Option Nat} {r:Nat} {es vis:List Ent} {cnt:Nat} (h:RangeIn w mb r es vis [] cnt):vis.Perm es:=by
 cases mb with
 | none=>obtain ⟨_,rfl,rfl,_⟩:=h;exact List.Perm.refl _
 | some m=>obtain ⟨_,hp,_⟩:=h;simpa using hp
set_option maxRecDepth 100000 in
theorem range_start {w:World} {mb:Option Nat} {es:List Ent} (h:MapIn w mb es) :
 ∃ w' cnt,(Instr.range 126 (.map mb)).run Tryz.prog w = .ok (.pointer (some ⟨w.heap.size,0,none⟩)) w'∧RangeIn w' mb w.heap.size es [] es cnt∧w.grownBy w' none∧w'.heap.size=w.heap.size+1:=by
 obtain ⟨hnd,h2⟩:=h
 cases mb with
 | none=>
  have h2:es=[]:=h2
  subst h2
  exact ⟨_,0,run_range_nilMap w _ _ _ Tryz.underlying126,⟨rfl,rfl,rfl,fun ty=>run_next_nilMap w ty 0 0 #[]⟩,World.grownBy_alloc _ _ _,by simp⟩
 | some m=>
  obtain ⟨l,ho,hp⟩:=h2
  obtain ⟨w',hrun,hr,hg,hs⟩:=ho.range law_key Tryz.underlying126
  refine ⟨w',_,hrun,⟨hnd,List.Perm.refl _,l,_,hr,hp,fun nm=>?_⟩,hg,hs⟩
  rw [Maps.has_eq,hp.any_eq,List.any_map]
  congr 1
  funext e
  exact key_same e nm
set_option maxRecDepth 100000 in
theorem range_next {w:World} {mb:Option Nat} {r:Nat} {es vis rem:List Ent} {cnt:Nat} (h:RangeIn w mb r es vis rem cnt) (ty:TypeId) :
 (rem=[]∧(Instr.next (.pointer (some ⟨r,0,none⟩)) false ty).run Tryz.prog w = .ok (.tuple #[.bool false]) w) ∨
 ∃ e r1 r2 w' cnt',rem=r1 ++ e :: r2∧mb≠none∧(Instr.next (.pointer (some ⟨r,0,none⟩)) false ty).run Tryz.prog w = .ok (.tuple #[.bool true,.string e.name,pk e.blk]) w'∧RangeIn w' mb r es (vis ++ [e]) (r1 ++ r2) cnt'∧cnt'<cnt∧w.grownBy w' (some r)∧w'.heap.size=w.heap.size ∧
  (Instr.entry (.pointer (some ⟨r,0,none⟩))).run Tryz.prog w' = .ok (.tuple #[.string e.name,pk e.blk]) w':=by
 cases mb with
 | none=>
  obtain ⟨h1,_,_,h2⟩:=h
  exact .inl ⟨h1,h2 ty⟩
 | some m=>
  obtain ⟨hnd,hp,l,left,hr,hl,hf⟩:=h
  rcases hr.next law_key ty with ⟨_,hlf,hrun⟩|⟨key,v,kl,y,w',cnt',hkey,hlk,hv,hat,hrun,hrg,hlt,hgr,hsz,hen⟩
  ·refine .inl ⟨?_,hrun⟩
   cases rem with
   | nil=>rfl
   | cons e rem=>
    have h1:=hf e.name
    rw [hlf] at h1
    simp at h1
  ·right
   obtain ⟨s,rfl,hs⟩:∃ s:ByteArray,key = .string s∧kl = .string s.data.toList:=by
    rw [keyOf_string Tryz.underlying9] at hkey
    cases key<;>simp [mapKey,Tryz.underlying9] at hkey
    exact ⟨_,rfl,hkey.2.symm⟩
   subst hs
   obtain ⟨b,rfl,rfl⟩:=ptrElem_inv hv
   rw [hf s] at hlk
   obtain ⟨e,he,hen'⟩:=List.any_eq_true.1 hlk
   obtain rfl:=of_decide_eq_true hen'
   have hes:e∈es:=hp.mem_iff.1 (List.mem_append_right _ he)
   have hb:b=e.blk:=by
    have h1:=hat .nil
    unfold DataW.atKey at h1
    simp only at h1
    cases h3:l.find? (fun p=>p.1.sameKey (.string e.name.data.toList)) with
    | none=>rw [h3] at h1;cases h1
    | some p=>
     rw [h3] at h1
     have h4:=List.mem_of_find?_eq_some h3
     have h5:p.1.sameKey (.string e.name.data.toList)=true:=List.find?_some (p:=fun p:Lit×DataW Unit=>p.1.sameKey (.string e.name.data.toList)) h3
     obtain ⟨e',he',rfl⟩:=List.mem_map.1 (hl.mem_iff.1 h4)
     rw [key_same] at h5
     have h6:=of_decide_eq_true h5
     have h7:=getE_of hnd he'
     rw [h6,getE_of hnd hes] at h7
     injection h7 with h7
     subst h7
     have h8:(DataW.lit (.int .i64 (e.blk:Int)):DataW Unit) = .lit (.int .i64 (b:Int)):=h1
     injection h8 with h8
     injection h8 with _ h8
     omega
   subst hb
   obtain ⟨r1,r2,rfl⟩:=List.append_of_mem he
   refine ⟨e,r1,r2,w',cnt',rfl,by simp,hrun,⟨hnd,?_,l,_,hrg,hl,fun nm=>?_⟩,hlt,hgr,hsz,hen⟩
   ·refine List.Perm.trans ?_ hp
    rw [List.append_assoc]
    refine List.Perm.append_left vis ?_
    exact (List.perm_middle (a:=e) (l₁:=r1) (l₂:=r2)).symm
   ·have hrn:(names (r1 ++ e :: r2)).Nodup:=by
     have h1:(names (vis ++ (r1 ++ e :: r2))).Nodup:=((hp.map (fun e:Ent=>e.name)).nodup_iff).2 (show (es.map (fun e:Ent=>e.name)).Nodup from hnd)
     unfold names at h1 ⊢
     rw [List.map_append,List.nodup_append] at h1
     exact h1.2.1
    show (left (.string nm.data.toList) && !(Lit.string nm.data.toList).sameKey (.string e.name.data.toList))=_
    rw [hf nm]
    have hk:(Lit.string nm.data.toList).sameKey (.string e.name.data.toList)=decide (nm=e.name):=by
     rw [Bool.eq_iff_iff]
     constructor
     ·intro h
      have h':(Lit.string nm.data.toList) = .string e.name.data.toList:=WideAt.sameKey_eq h
      exact decide_eq_true (name_eq (by simpa using h'))
     ·intro h
      obtain rfl:=of_decide_eq_true h
      exact WideAt.sameKey_self trivial
    rw [hk]
    by_cases hx:nm=e.name
    ·subst hx
     simp only [decide_true,Bool.not_true,Bool.and_false]
     symm
     rw [List.any_eq_false]
     intro x hx
     unfold names at hrn
     rw [List.map_append,List.map_cons,List.nodup_append] at hrn
     obtain ⟨_,h2,h3⟩:=hrn
     rw [List.nodup_cons] at h2
     simp only [decide_eq_true_eq]
     intro hn
     rcases List.mem_append.1 hx with h|h
     ·exact h3 _ (List.mem_map_of_mem h) _ (List.mem_cons_self ..) hn
     ·exact h2.1 (hn▸List.mem_map_of_mem h)
    ·simp only [hx,decide_false,Bool.not_false,Bool.and_true]
     rw [List.any_append,List.any_append,List.any_cons]
     have:decide (e.name=nm)=false:=by simp [Ne.symm hx]
     rw [this,Bool.false_or]
end Go.Proofs.YtajmeimjaapagaaGreatDoor
namespace Go.Proofs.YtajmeimjaapagaaGreatDoor
open Go.RowKit Go.Deep
section
variable {w:World} {ops:Array Oper} {rest:List Oper} {o:Oper} {a:Act} {Q:Exit→Act→World→Prop}
theorem wpList_store_ent (hg:o.guard=none) (m x v:Operand) (hop:o.op=Op.mapUpdate 126 m x v) (mm:Nat) (es:List Ent) (nm:ByteArray) (b:Nat) (e:Ent)
 (hm:a.eval m = .map (some mm)) (hx:a.eval x = .string nm) (hv:a.eval v = .pointer (some ⟨b,0,none⟩)) (he1:e.name=nm) (he2:e.blk=b) (h:MapIn w (some mm) es) (hl:nm.size≤maxLen) (hf:getE es nm=none) (hn:es.length<maxLen)
 (hK:∀ w',MapIn w' (some mm) (es ++ [e])→w.grownBy w' (some mm)→wpList Tryz.prog ops Q rest (a.put o.dst undef) w'):wpList Tryz.prog ops Q (o :: rest) a w:=by
 subst he1
 subst he2
 refine wpList_plain hg fun K' hK'=>?_
 obtain ⟨w',hrun,r1,r2⟩:=h.store e hl hf hn
 unfold pk at hrun
 unfold Oper.wp
 simp [execOp,hop,hm,hx,hv,hrun,Result.andThen]
 exact hK' _ _ (hK w' r1 r2)
theorem wpList_drop_ent (hg:o.guard=none) (m x:Operand) (hop:o.op=Op.call { callee:=Callee.builtin Builtin.delete,args:=#[m,x],argTypes:=#[126,9]}) (mb:Option Nat) (es:List Ent) (nm:ByteArray)
 (hm:a.eval m = .map mb) (hx:a.eval x = .string nm) (h:MapIn w mb es) (hl:nm.size≤maxLen)
 (hK:∀ w',MapIn w' mb (without es nm)→w.grownBy w' mb→wpList Tryz.prog ops Q rest (a.put o.dst (.tuple #[])) w'):wpList Tryz.prog ops Q (o :: rest) a w:=by
 refine wpList_plain hg fun K' hK'=>?_
 obtain ⟨w',hrun,r1,r2⟩:=h.drop nm hl o.type
 unfold Oper.wp
 simp [execOp,hop,resolve,invoke,builtin,hm,hx,hrun,Result.andThen]
 exact hK' _ _ (hK w' r1 r2)
theorem wpList_range_ents (hg:o.guard=none) (m:Operand) (hop:o.op=Op.range 126 m) (mb:Option Nat) (es:List Ent)
 (hm:a.eval m = .map mb) (h:MapIn w mb es)
 (hK:∀ w' cnt,RangeIn w' mb w.heap.size es [] es cnt→w.grownBy w' none→w'.heap.size=w.heap.size+1→wpList Tryz.prog ops Q rest (a.put o.dst (.pointer (some ⟨w.heap.size,0,none⟩))) w'):wpList Tryz.prog ops Q (o :: rest) a w:=by
 refine wpList_plain hg fun K' hK'=>?_
 obtain ⟨w',cnt,hrun,r1,r2,r3⟩:=range_start h
 unfold Oper.wp
 simp [execOp,hop,hm,hrun,Result.andThen]
 exact hK' _ _ (hK w' cnt r1 r2 r3)
theorem wpList_next_ents (hg:o.guard=none) (it:Operand) (hop:o.op=Op.next it false) (mb:Option Nat) (r:Nat) (es vis rem:List Ent) (cnt:Nat)
 (hit:a.eval it = .pointer (some ⟨r,0,none⟩)) (h:RangeIn w mb r es vis rem cnt)
 (hDone:rem=[]→wpList Tryz.prog ops Q rest (a.put o.dst (.tuple #[.bool false])) w)
 (hMore:∀ e r1 r2 w' cnt',rem=r1 ++ e :: r2→mb≠none→RangeIn w' mb r es (vis ++ [e]) (r1 ++ r2) cnt'→cnt'<cnt→w.grownBy w' (some r)→w'.heap.size=w.heap.size →
  (Instr.entry (.pointer (some ⟨r,0,none⟩))).run Tryz.prog w' = .ok (.tuple #[.string e.name,.pointer (some ⟨e.blk,0,none⟩)]) w'→wpList Tryz.prog ops Q rest (a.put o.dst (.tuple #[.bool true,.string e.name,.pointer (some ⟨e.blk,0,none⟩)])) w'):wpList Tryz.prog ops Q (o :: rest) a w:=by
 refine wpList_plain hg fun K' hK'=>?_
 unfold Oper.wp
 rcases range_next h o.type with ⟨h0,hrun⟩|⟨e,r1,r2,w',cnt',hr,hmb,hrun,hri,hlt,hgr,hsz,hen⟩
 ·simp [execOp,hop,hit,hrun,Result.andThen]
  exact hK' _ _ (hDone h0)
 ·unfold pk at hrun hen
  simp [execOp,hop,hit,hrun,Result.andThen]
  exact hK' _ _ (hMore e r1 r2 w' cnt' hr hmb hri hlt hgr hsz hen)
end
end Go.Proofs.YtajmeimjaapagaaGreatDoor
