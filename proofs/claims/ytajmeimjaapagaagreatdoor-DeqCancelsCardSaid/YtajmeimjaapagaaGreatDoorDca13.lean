/- A part. -/
import Derived.Test.YtajmeimjaapagaaGreatDoorDca5
set_option linter.unusedVariables false
set_option linter.unusedSimpArgs false
namespace Go.Proofs.YtajmeimjaapagaaGreatDoor
open Go.RowKit Go.Deep
def okL (L:List (Int×Int)) (n:Nat) (s:ByteArray):Bool:=decide (1≤s.size) && decide (s.size≤n) && s.data.toList.all fun c=>inL L c.toNat
theorem okL_iff {L:List (Int×Int)} {n:Nat} {s:ByteArray}:okL L n s=true↔1≤s.size∧s.size≤n∧∀ i (h:i<s.size),inL L (s[i]'h).toNat=true:=by
 unfold okL
 simp only [Bool.and_eq_true,decide_eq_true_eq,List.all_eq_true,and_assoc]
 refine and_congr_right fun _=>and_congr_right fun _=>⟨fun h i hi=>h _ (by simp [ByteArray.getElem_eq_getElem_data]),fun h c hc=>?_⟩
 obtain ⟨i,hi,rfl⟩:=List.getElem_of_mem hc
 exact h i (by simpa using hi)
theorem okL_true {L:List (Int×Int)} {n:Nat} {s:ByteArray} (h1:1≤s.size) (h2:s.size≤n) (h:∀ i (h:i<s.size),inL L (s[i]'h).toNat=true):okL L n s=true:=okL_iff.2 ⟨h1,h2,h⟩
theorem okL_none {L:List (Int×Int)} {n:Nat} {s:ByteArray} (h:¬ 1≤s.size):okL L n s=false:=by
 rw [←Bool.not_eq_true,okL_iff];exact fun k=>h k.1
theorem okL_long {L:List (Int×Int)} {n:Nat} {s:ByteArray} (h:¬ s.size≤n):okL L n s=false:=by
 rw [←Bool.not_eq_true,okL_iff];exact fun k=>h k.2.1
theorem okL_at {L:List (Int×Int)} {n:Nat} {s:ByteArray} {i:Nat} (hi:i<s.size) (h:inL L (s[i]'hi).toNat=false):okL L n s=false:=by
 rw [←Bool.not_eq_true,okL_iff];intro k;rw [k.2.2 i hi] at h;cases h
def IsMay (L:List (Int×Int)) (w:World) (e:Ending) (w':World):Prop:=
 ∃ b,e = .returned (.func (.func 276) #[] #[.pointer (some ⟨b,0,none⟩)])∧Spans w' b L∧Below w.heap.size w w'
theorem signs_any (L:List (Int×Int)) (c o cap:Nat) (w:World) (hl:L.length≤1000)
 (hs:∀ i,i<L.length→w.cell? ⟨c,o+i*2,none⟩=some (.int .i32 (L.getD i (0,0)).1)∧w.cell? ⟨c,o+i*2+1,none⟩=some (.int .i32 (L.getD i (0,0)).2)) :
 Calls Tryz.prog 269 #[.slice (some ⟨c,o,none⟩) L.length cap] w (IsMay L w):=by
 have hmf:∀ (fn:Fn) (first cap:Array Value) (w:World),(Instr.makeFunc fn first cap).run Tryz.prog w = .ok (.func fn first cap) w:=fun _ _ _ _=>rfl
 have HS:=Lib.hid hs
 clear hs
 go_enter Tryz.func269,Tryz.ntmps269
 go_wp2_with fail
 go_ret
 refine ⟨w.heap.size,rfl,⟨hl,c,o,cap,by simp [go_sem],fun i hi=>?_⟩,(Below.refl _ _).alloc (Nat.le_refl _) _⟩
 obtain ⟨h1,h2⟩:=HS.out i hi
 have hb:=(Below.refl w.heap.size w).alloc (Nat.le_refl _) (.cells #[.slice (some ⟨c,o,none⟩) L.length cap] 332)
 exact ⟨(hb.cell (World.block_lt_of_cell? _ _ h1)).trans h1,(hb.cell (World.block_lt_of_cell? _ _ h2)).trans h2⟩
def plainL:List (Int×Int):=[(97,122),(48,57),(45,45)]
def keyL:List (Int×Int):=[(33,126)]
theorem plainSigns_any (w:World):Calls Tryz.prog 267 #[] w (IsMay plainL w):=by
 go_enter Tryz.func267,Tryz.ntmps267
 go_wp2_with fail
 refine (signs_any plainL w.heap.size 0 3 _ (by decide) (fun i hi=>by
  match i,hi with
  | 0,_=>simp [plainL,go_sem]
  | 1,_=>simp [plainL,go_sem]
  | 2,_=>simp [plainL,go_sem])).mono ?_
 rintro e w' ⟨b,rfl,hs,hb⟩
 have HS:=Lib.hid hs
 have HB:=Lib.hid hb
 clear hs hb
 go_wp2_with fail
 go_ret
 exact ⟨b,rfl,HS.out,((Below.refl w.heap.size w).alloc (Nat.le_refl _) _).trans (HB.out.mono (by simp [go_sem]))⟩
theorem next_sign {L:List (Int×Int)} (hL:∀ r,inL L r=true→r<128) (s:ByteArray) (pos:Nat) (h:pos<s.size) :
 ∃ (c:Int) (d:Nat),0≤c∧c≤2147483647∧(inL L c=true→d=1∧inL L (s[pos]'h).toNat=true)∧(inL L c=false→inL L (s[pos]'h).toNat=false) ∧
  ((Utf8.decode s pos).1:Int)=c∧(Utf8.decode s pos).2=d:=by
 refine ⟨_,_,Int.natCast_nonneg _,by have:=decode_le s pos;omega,?_,?_,rfl,rfl⟩
 ·intro hc
  by_cases ha:(s[pos]'h).toNat<128
  ·rw [decode_ascii s pos h ha] at hc ⊢
   exact ⟨rfl,hc⟩
  ·have:=(decode_high s pos h (by omega)).1
   have:=hL _ hc
   omega
 ·intro hc
  by_cases ha:(s[pos]'h).toNat<128
  ·rw [decode_ascii s pos h ha] at hc
   exact hc
  ·rw [←Bool.not_eq_true]
   intro hk
   have:=hL _ hk
   omega
theorem iter_new (w:World) (s:ByteArray):(w.iter s 0).heap[w.heap.size]? = some (.stringIter s 0):=World.iter_heap w s 0
theorem empty_of {s:ByteArray} (h:¬ 1≤s.size):s.toList.isEmpty=true:=by
 rw [ByteArray.toList_eq,List.isEmpty_iff,←List.length_eq_zero_iff]
 have:s.data.toList.length=s.size:=rfl
 omega
theorem some_of {s:ByteArray} (h:1≤s.size):s.toList.isEmpty=false:=by
 rw [ByteArray.toList_eq,List.isEmpty_eq_false_iff,←List.length_pos_iff]
 exact h
set_option maxRecDepth 100000 in
theorem made_any (L:List (Int×Int)) (hL:∀ r,inL L r=true→r<128) (b n:Nat) (s:ByteArray) (w:World) (h:Spans w b L) (hs:s.size≤maxLen) (hn:n≤1000) :
 Calls Tryz.prog 266 #[.string s,.int .i64 n,.func (.func 276) #[] #[.pointer (some ⟨b,0,none⟩)]] w fun e w'=>e = .returned (.bool (okL L n s))∧Below w.heap.size w w':=by
 unfold maxLen at hs
 have HL:=Lib.hid hL
 have HP:=Lib.hid h
 have HI:=Lib.hid (iter_new w s)
 have HB0:Hid (Below w.heap.size w (w.iter s 0)):=Lib.hid ((Below.refl _ _).alloc (Nat.le_refl _) _)
 clear hL h
 by_cases h1:1≤s.size
 ·have he:=some_of h1
  by_cases h2:s.size≤n
  ·have hd:decide (n<s.size)=false:=by simpa using h2
   go_enter Tryz.func266,Tryz.ntmps266
   go_wp2_with fail
   go_loopw [6] (fun x wr=>∃ pos:Nat,pos≤s.size∧wr.heap[w.heap.size]? = some (.stringIter s pos)∧Below w.heap.size w wr∧∀ i (h:i<s.size),i<pos→inL L (s[i]'h).toNat=true) (fun _ wr=>s.size - wr.iterPos w.heap.size)
   case atStart=>exact ⟨0,Nat.zero_le _,HI.out,HB0.out,fun i h hi=>by omega⟩
   case round=>
    obtain ⟨pos,hpos,hit,hb,hok⟩:=hrel
    have HB:=Lib.hid hb
    have HOK:=Lib.hid hok
    have HIT:=Lib.hid hit
    clear hb hok
    by_cases hlt:pos<s.size
    ·obtain ⟨c,d,hc0,hc1,hyes,hno,hce,hde⟩:=next_sign HL.out s pos hlt
     have hnx:=fun ty=>Lib.run_next_any_at (P:=Tryz.prog) wr w.heap.size s pos ty hit hlt
     rw [hce,hde] at hnx
     have HY:=Lib.hid hyes
     have HN:=Lib.hid hno
     clear hyes hno hce hde hit
     have HB2:=Lib.hid (Lib.below_iterAt HB.out (Nat.le_refl _) s (pos+d))
     have HP2:=Lib.hid (HP.out.below HB2.out (Nat.le_refl _))
     have HI2:=Lib.hid (Lib.iterAt_heap wr w.heap.size s pos (pos+d) HIT.out)
     obtain ⟨w2,hw2⟩:∃ w2,w2=wr.iterAt w.heap.size s (pos+d):=⟨_,rfl⟩
     rw [←hw2] at hnx HB2 HP2 HI2
     clear hw2
     go_wp2_with fail
     refine (sign_any L b c _ HP2.out).mono ?_
     rintro e w' ⟨rfl,hb⟩
     have HB3:=Lib.hid (HB2.out.trans (hb.mono HB2.out.size))
     have HI3:Hid (w'.heap[w.heap.size]? = some (.stringIter s (pos+d))):=Lib.hid ((hb.block _ (Array.getElem?_eq_some_iff.1 HI2.out).1).trans HI2.out)
     clear hb
     by_cases hin:inL L c=true
     ·have HIN:=Lib.hid hin
      rw [hin]
      clear hin
      go_wp2_with fail
      obtain ⟨rfl,hk⟩:=HY.out HIN.out
      refine ⟨⟨pos+1,by omega,HI3.out,HB3.out,fun i h hi=>?_⟩,?_⟩
      ·by_cases hip:i=pos
       ·subst hip
        exact hk
       ·exact HOK.out i h (by omega)
      ·have e1:wr.iterPos w.heap.size=pos:=iterPos_of HIT.out
       have e2:w'.iterPos w.heap.size=pos+1:=iterPos_of HI3.out
       rw [e1,e2]
       omega
     ·rw [Bool.not_eq_true] at hin
      have HIN:=Lib.hid hin
      rw [hin]
      clear hin
      go_wp2_with fail
      go_ret
      exact ⟨by rw [okL_at hlt (HN.out HIN.out)];rfl,HB3.out⟩
    ·have hnx:=fun ty=>Lib.run_next_end_at (P:=Tryz.prog) wr w.heap.size s pos ty hit hlt
     clear hit
     go_wp2_with fail
     go_ret
     exact ⟨by rw [okL_true h1 h2 (fun i h=>HOK.out i h (by omega))];rfl,HB.out⟩
  ·go_enter Tryz.func266,Tryz.ntmps266
   go_wp2_with fail
   go_ret
   exact ⟨by rw [okL_long h2];rfl,Below.refl _ _⟩
 ·have he:=empty_of h1
  go_enter Tryz.func266,Tryz.ntmps266
  go_wp2_with fail
  go_ret
  exact ⟨by rw [okL_none h1];rfl,Below.refl _ _⟩
theorem plainL_lt (r:Int) (h:inL plainL r=true):r<128:=by
 simp [inL,plainL] at h
 omega
theorem keyL_lt (r:Int) (h:inL keyL r=true):r<128:=by
 simp [inL,keyL] at h
 omega
def plainB (s:ByteArray):Bool:=okL plainL 16 s
def groupB (s:ByteArray):Bool:=okL plainL 8 s
def keyB (s:ByteArray):Bool:=okL keyL 16 s
theorem plain_any (s:ByteArray) (w:World) (hs:s.size≤maxLen):Calls Tryz.prog 252 #[.string s] w fun e w'=>e = .returned (.bool (plainB s))∧Below w.heap.size w w':=by
 go_enter Tryz.func252,Tryz.ntmps252
 go_wp2_with fail
 refine (plainSigns_any _).mono ?_
 rintro e w1 ⟨b,rfl,hp,hb⟩
 have HP:=Lib.hid hp
 have HB:=Lib.hid hb
 clear hp hb
 go_wp2_with fail
 refine (made_any plainL plainL_lt b 16 s _ HP.out hs (by omega)).mono ?_
 rintro e w2 ⟨rfl,hb⟩
 have HB2:=Lib.hid (HB.out.trans (hb.mono HB.out.size))
 clear hb
 go_wp2_with fail
 go_ret
 exact ⟨rfl,HB2.out⟩
theorem group_any (s:ByteArray) (w:World) (hs:s.size≤maxLen):Calls Tryz.prog 265 #[.string s] w fun e w'=>e = .returned (.bool (groupB s))∧Below w.heap.size w w':=by
 go_enter Tryz.func265,Tryz.ntmps265
 go_wp2_with fail
 refine (plainSigns_any _).mono ?_
 rintro e w1 ⟨b,rfl,hp,hb⟩
 have HP:=Lib.hid hp
 have HB:=Lib.hid hb
 clear hp hb
 go_wp2_with fail
 refine (made_any plainL plainL_lt b 8 s _ HP.out hs (by omega)).mono ?_
 rintro e w2 ⟨rfl,hb⟩
 have HB2:=Lib.hid (HB.out.trans (hb.mono HB.out.size))
 clear hb
 go_wp2_with fail
 go_ret
 exact ⟨rfl,HB2.out⟩
theorem key_any (s:ByteArray) (w:World) (hs:s.size≤maxLen):Calls Tryz.prog 254 #[.string s] w fun e w'=>e = .returned (.bool (keyB s))∧Below w.heap.size w w':=by
 go_enter Tryz.func254,Tryz.ntmps254
 go_wp2_with fail
 refine (signs_any keyL w.heap.size 0 1 _ (by decide) (fun i hi=>by
  match i,hi with
  | 0,_=>simp [keyL,go_sem])).mono ?_
 rintro e w1 ⟨b,rfl,hp,hb⟩
 have HP:=Lib.hid hp
 have HB:=Lib.hid (((Below.refl w.heap.size w).alloc (Nat.le_refl _) _).trans (hb.mono (by simp [go_sem])))
 clear hp hb
 go_wp2_with fail
 refine (made_any keyL keyL_lt b 16 s _ HP.out hs (by omega)).mono ?_
 rintro e w2 ⟨rfl,hb⟩
 have HB2:=Lib.hid (HB.out.trans (hb.mono HB.out.size))
 clear hb
 go_wp2_with fail
 go_ret
 exact ⟨rfl,HB2.out⟩
def hasB (s h:ByteArray):Bool:=decide (h.size≤s.size) && ((s.extract 0 h.size).toList == h.toList)
theorem has_short {s h:ByteArray} (k:¬ h.size≤s.size):hasB s h=false:=by unfold hasB;simp [k]
theorem has_long {s h:ByteArray} (k:h.size≤s.size):hasB s h=((s.extract 0 h.size).toList == h.toList):=by unfold hasB;simp [k]
theorem has_le {s h:ByteArray} (k:hasB s h=true):h.size≤s.size:=by
 unfold hasB at k
 simp only [Bool.and_eq_true,decide_eq_true_eq] at k
 exact k.1
set_option maxRecDepth 100000 in
theorem hasPrefix_any (s h:ByteArray) (w:World) (hs:s.size≤maxLen) (hh:h.size≤maxLen):Calls Tryz.prog 198 #[.string s,.string h] w fun e w'=>e = .returned (.bool (hasB s h))∧w=w':=by
 unfold maxLen at hs hh
 by_cases k:h.size≤s.size
 ·go_enter Tryz.func198,Tryz.ntmps198
  go_wp2_with fail
  go_ret
  exact ⟨by rw [has_long k];rfl,rfl⟩
 ·go_enter Tryz.func198,Tryz.ntmps198
  go_wp2_with fail
  go_ret
  exact ⟨by rw [has_short k];rfl,rfl⟩
theorem cutLite_any (s h:ByteArray) (x:Bool) (w:World) (hs:s.size≤maxLen) (hh:h.size≤maxLen) (hx:hasB s h=x) :
 Calls Tryz.prog 216 #[.string s,.string h] w fun e w'=>e = .returned (.tuple #[.string (if x then s.extract h.size s.size else s),.bool x])∧w=w':=by
 have HX:=Lib.hid hx
 have hle:x=true→h.size≤s.size:=fun e=>has_le (hx.trans e)
 have hs':=hs
 have hh':=hh
 unfold maxLen at hs' hh'
 clear hx
 cases x
 ·clear hle
  go_enter Tryz.func216,Tryz.ntmps216
  go_wp2_with fail
  refine (hasPrefix_any s h _ hs hh).mono ?_
  rintro e w1 ⟨rfl,rfl⟩
  rw [HX.out]
  go_wp2_with fail
  go_ret2
  exact ⟨rfl,rfl⟩
 ·have hle:=hle rfl
  go_enter Tryz.func216,Tryz.ntmps216
  go_wp2_with fail
  refine (hasPrefix_any s h _ hs hh).mono ?_
  rintro e w1 ⟨rfl,rfl⟩
  rw [HX.out]
  go_wp2_with fail
  go_ret2
  exact ⟨rfl,rfl⟩
theorem ncut_any (s h:ByteArray) (x:Bool) (w:World) (hs:s.size≤maxLen) (hh:h.size≤maxLen) (hx:hasB s h=x) :
 Calls Tryz.prog 192 #[.string s,.string h] w fun e w'=>e = .returned (.tuple #[.string (if x then s.extract h.size s.size else s),.bool x])∧w=w':=by
 have HX:=Lib.hid hx
 clear hx
 obtain ⟨t,ht⟩:∃ t,t=if x then s.extract h.size s.size else s:=⟨_,rfl⟩
 rw [←ht]
 have HT:=Lib.hid ht
 clear ht
 go_enter Tryz.func192,Tryz.ntmps192
 go_wp2_with fail
 refine (cutLite_any s h x _ hs hh HX.out).mono ?_
 rintro e w1 ⟨rfl,rfl⟩
 rw [←HT.out]
 go_wp2_with fail
 go_ret2
 exact ⟨rfl,rfl⟩
abbrev retryH:ByteArray:=⟨#[37,114,101,116,114,121,37]⟩
abbrev deadH:ByteArray:=⟨#[37,100,101,97,100,37]⟩
def ownB (s h:ByteArray):Bool:=hasB s h && groupB (s.extract h.size s.size)
def ofB (s:ByteArray):ByteArray:=if ownB s retryH then s.extract 7 s.size else if ownB s deadH then s.extract 6 s.size else ⟨#[]⟩
def isOwn (s:ByteArray):Bool:=ownB s retryH || ownB s deadH
theorem extract_le (s:ByteArray) (k:Nat):(s.extract k s.size).size≤s.size:=by
 rw [ByteArray.size_extract];omega
set_option maxRecDepth 100000 in
theorem of_any (s:ByteArray) (w:World) (hs:s.size≤maxLen):Calls Tryz.prog 251 #[.string s] w fun e w'=>e = .returned (.tuple #[.string (ofB s),.bool (isOwn s)])∧Below w.heap.size w w':=by
 have i0:∀ w,(Instr.index 319 (.agg #[.string retryH,.string deadH]) (.int .i64 0)).run Tryz.prog w = .ok (.string retryH) w:=fun _=>by kernel_rfl
 have i1:∀ w,(Instr.index 319 (.agg #[.string retryH,.string deadH]) (.int .i64 1)).run Tryz.prog w = .ok (.string deadH) w:=fun _=>by kernel_rfl
 go_enter Tryz.func251,Tryz.ntmps251
 go_wp2_with fail
 go_loopw [9] (fun i wr=>Below w.heap.size w wr∧(i = .int .i64 0∨(i = .int .i64 1∧ownB s retryH=false)∨(i = .int .i64 2∧ownB s retryH=false∧ownB s deadH=false))) (fun i _=>2 - (intOf i).toNat)
 case atStart=>exact ⟨Below.refl _ _,.inl rfl⟩
 case round=>
  obtain ⟨hb,hrel⟩:=hrel
  have HB:=Lib.hid hb
  clear hb
  rcases hrel with rfl|⟨rfl,hr⟩|⟨rfl,hr,hd⟩
  ·skip
   cases hx:hasB s retryH
   ·have HX:=Lib.hid hx
    have HN:Hid (ownB s retryH=false):=Lib.hid (by unfold ownB;rw [hx];rfl)
    clear hx
    go_wp2_with fail
    refine (ncut_any s retryH false _ hs (by decide) HX.out).mono ?_
    rintro e w1 ⟨rfl,rfl⟩
    go_wp2_with fail
    exact ⟨⟨HB.out,.inr (.inl ⟨rfl,HN.out⟩)⟩,by simp [intOf]⟩
   ·have HX:=Lib.hid hx
    obtain ⟨t,ht⟩:∃ t,t=s.extract 7 s.size:=⟨_,rfl⟩
    have htl:t.size≤maxLen:=by rw [ht];exact Nat.le_trans (extract_le s 7) hs
    have HE:Hid (ownB s retryH=groupB t):=Lib.hid (by unfold ownB;rw [hx,ht];rfl)
    have HT:=Lib.hid ht
    clear hx ht
    go_wp2_with fail
    refine (ncut_any s retryH true _ hs (by decide) HX.out).mono ?_
    rintro e w1 ⟨rfl,rfl⟩
    rw [if_pos rfl,show (retryH).size=7 from rfl,←HT.out]
    go_wp2_with fail
    refine (group_any t _ htl).mono ?_
    rintro e w2 ⟨rfl,hb⟩
    have HB2:=Lib.hid (HB.out.trans (hb.mono HB.out.size))
    clear hb
    cases hg:groupB t
    ·have HN:Hid (ownB s retryH=false):=Lib.hid (HE.out.trans hg)
     clear hg
     go_wp2_with fail
     exact ⟨⟨HB2.out,.inr (.inl ⟨rfl,HN.out⟩)⟩,by simp [intOf]⟩
    ·have HN:Hid (ownB s retryH=true):=Lib.hid (HE.out.trans hg)
     clear hg
     go_wp2_with fail
     go_ret2
     exact ⟨by rw [show ofB s=t from by unfold ofB;rw [if_pos HN.out,HT.out],show isOwn s=true from by unfold isOwn;rw [HN.out];rfl];rfl,HB2.out⟩
  ·have HR:=Lib.hid hr
   clear hr
   cases hx:hasB s deadH
   ·have HX:=Lib.hid hx
    have HN:Hid (ownB s deadH=false):=Lib.hid (by unfold ownB;rw [hx];rfl)
    clear hx
    go_wp2_with fail
    refine (ncut_any s deadH false _ hs (by decide) HX.out).mono ?_
    rintro e w1 ⟨rfl,rfl⟩
    go_wp2_with fail
    exact ⟨⟨HB.out,.inr (.inr ⟨rfl,HR.out,HN.out⟩)⟩,by simp [intOf]⟩
   ·have HX:=Lib.hid hx
    obtain ⟨t,ht⟩:∃ t,t=s.extract 6 s.size:=⟨_,rfl⟩
    have htl:t.size≤maxLen:=by rw [ht];exact Nat.le_trans (extract_le s 6) hs
    have HE:Hid (ownB s deadH=groupB t):=Lib.hid (by unfold ownB;rw [hx,ht];rfl)
    have HT:=Lib.hid ht
    clear hx ht
    go_wp2_with fail
    refine (ncut_any s deadH true _ hs (by decide) HX.out).mono ?_
    rintro e w1 ⟨rfl,rfl⟩
    rw [if_pos rfl,show (deadH).size=6 from rfl,←HT.out]
    go_wp2_with fail
    refine (group_any t _ htl).mono ?_
    rintro e w2 ⟨rfl,hb⟩
    have HB2:=Lib.hid (HB.out.trans (hb.mono HB.out.size))
    clear hb
    cases hg:groupB t
    ·have HN:Hid (ownB s deadH=false):=Lib.hid (HE.out.trans hg)
     clear hg
     go_wp2_with fail
     exact ⟨⟨HB2.out,.inr (.inr ⟨rfl,HR.out,HN.out⟩)⟩,by simp [intOf]⟩
    ·have HN:Hid (ownB s deadH=true):=Lib.hid (HE.out.trans hg)
     clear hg
     go_wp2_with fail
     go_ret2
     exact ⟨by rw [show ofB s=t from by unfold ofB;rw [if_neg (by rw [HR.out];decide),if_pos HN.out,HT.out],show isOwn s=true from by unfold isOwn;rw [HN.out,Bool.or_true]];rfl,HB2.out⟩
  ·have HF:Hid (ofB s=⟨#[]⟩):=Lib.hid (by unfold ofB;rw [hr,hd];rfl)
   have HI:Hid (isOwn s=false):=Lib.hid (by unfold isOwn;rw [hr,hd];rfl)
   clear hr hd
   go_wp2_with fail
   go_ret2
   exact ⟨by rw [HF.out,HI.out];rfl,HB.out⟩
def topicB (s:ByteArray):Bool:=isOwn s || plainB s
def tagB (s:ByteArray):Bool:=s.toList.isEmpty || plainB s
theorem topic_any (s:ByteArray) (w:World) (hs:s.size≤maxLen):Calls Tryz.prog 233 #[.string s] w fun e w'=>e = .returned (.bool (topicB s))∧Below w.heap.size w w':=by
 obtain ⟨g,hg⟩:∃ g,g=ofB s:=⟨_,rfl⟩
 have HG:=Lib.hid hg
 clear hg
 cases ho:isOwn s
 ·have HO:=Lib.hid ho
  have HT:Hid (topicB s=plainB s):=Lib.hid (by unfold topicB;rw [ho];rfl)
  clear ho
  go_enter Tryz.func233,Tryz.ntmps233
  go_wp2_with fail
  refine (of_any s _ hs).mono ?_
  rintro e w1 ⟨rfl,hb⟩
  rw [HO.out,←HG.out]
  have HB:=Lib.hid hb
  clear hb
  go_wp2_with fail
  refine (plain_any s _ hs).mono ?_
  rintro e w2 ⟨rfl,hb⟩
  have HB2:=Lib.hid (HB.out.trans (hb.mono HB.out.size))
  rw [←HT.out]
  clear hb
  go_wp2_with fail
  go_ret
  exact ⟨rfl,HB2.out⟩
 ·have HO:=Lib.hid ho
  have HT:Hid (topicB s=true):=Lib.hid (by unfold topicB;rw [ho];rfl)
  clear ho
  go_enter Tryz.func233,Tryz.ntmps233
  go_wp2_with fail
  refine (of_any s _ hs).mono ?_
  rintro e w1 ⟨rfl,hb⟩
  rw [HO.out,←HG.out]
  have HB:=Lib.hid hb
  clear hb
  go_wp2_with fail
  go_ret
  exact ⟨by rw [HT.out];rfl,HB.out⟩
theorem tag_any (s:ByteArray) (w:World) (hs:s.size≤maxLen):Calls Tryz.prog 234 #[.string s] w fun e w'=>e = .returned (.bool (tagB s))∧Below w.heap.size w w':=by
 by_cases h1:1≤s.size
 ·have he:=some_of h1
  have HT:Hid (tagB s=plainB s):=Lib.hid (by unfold tagB;rw [he];rfl)
  go_enter Tryz.func234,Tryz.ntmps234
  go_wp2_with fail
  refine (plain_any s _ hs).mono ?_
  rintro e w2 ⟨rfl,hb⟩
  rw [←HT.out]
  have HB:=Lib.hid hb
  clear hb
  go_wp2_with fail
  go_ret
  exact ⟨rfl,HB.out⟩
 ·have he:=empty_of h1
  have HT:Hid (tagB s=true):=Lib.hid (by unfold tagB;rw [he];rfl)
  go_enter Tryz.func234,Tryz.ntmps234
  go_wp2_with fail
  go_ret
  exact ⟨by rw [HT.out];rfl,Below.refl _ _⟩
theorem ext0 (s:ByteArray) (n:Nat):(s.extract 0 n).toList=s.data.toList.take n:=by
 rw [ByteArray.toList_eq]
 simp [ByteArray.data_extract,List.extract_eq_take_drop]
theorem hasB_list (s h:ByteArray):hasB s h=(decide (h.size≤s.size) && (s.data.toList.take h.size == h.data.toList)):=by
 unfold hasB;rw [ext0,ByteArray.toList_eq]
end Go.Proofs.YtajmeimjaapagaaGreatDoor
/- A part. -/
set_option linter.unusedVariables false
set_option linter.unusedSimpArgs false
namespace Go.Proofs.YtajmeimjaapagaaGreatDoor
open Go.RowKit Go.Deep
theorem rec_idle (w:World):CallsD Tryz.prog 268 #[] .returning w fun e u' w'=>e = .returned (.tuple #[])∧u' = .returning∧w'=w:=by
 refine callsD_of_wpS Tryz.func268 rfl fun c₀ cs hu=>?_
 apply wpS_region
 cases c₀
 simp_all [wpOpsS,go_sem,recoverD,Tryz.ntmps268,bodyPostS,results,Tryz.results268]
set_option maxRecDepth 100000 in
theorem all_key (v:Value) (ts:List ByteArray) (x:Bool) (w:World) (hv:Strs w 0 v ts) (hl:ts.length≤maxLen) (hs:∀ t∈ts,t.size≤maxLen) (hx:ts.all keyB=x) :
 Calls Tryz.prog 253 #[.func (.func 254) #[] #[],v] w fun e w'=>e = .returned (.bool x)∧Below w.heap.size w w':=by
 have qn:∀ w,(binOp .eql 207 (.func (.func 254) #[] #[]) .nilFunc).run Tryz.prog w = .ok (.bool false) w:=fun _=>by kernel_rfl
 unfold maxLen at hl
 have HV:=Lib.hid hv
 have HX:=Lib.hid hx
 have HSZ:=Lib.hid hs
 obtain ⟨a,cap,rfl⟩:=hv.form
 clear hv hx hs
 go_enter_defers Tryz.func253,Tryz.ntmps253
 go_wp2_with fail
 go_loopw [9] (fun i wr=>∃ k:Nat,k≤ts.length∧i = .int .i64 k∧Below w.heap.size w wr∧∀ j,j<k→keyB (ts.getD j ⟨#[]⟩)=true) (fun i _=>ts.length - (intOf i).toNat)
 case atStart=>exact ⟨0,Nat.zero_le _,rfl,Below.refl _ _,fun j hj=>by omega⟩
 case round=>
  obtain ⟨k,hk,rfl,hb,hok⟩:=hrel
  have HB:=Lib.hid hb
  have HOK:=Lib.hid hok
  clear hb hok
  by_cases hlt:k<ts.length
  ·obtain ⟨b,o,rfl,hck⟩:=(HV.out.below HB.out (Nat.le_refl _)).cellAt hlt
   obtain ⟨s,hse⟩:∃ s,s=ts.getD k ⟨#[]⟩:=⟨_,rfl⟩
   have hin:s∈ts:=by rw [hse];simp [List.getD_eq_getElem?_getD,List.getElem?_eq_getElem hlt]
   have hsz:s.size≤maxLen:=HSZ.out s hin
   rw [←hse] at hck
   have HSE:=Lib.hid hse
   clear hse
   go_wp2_with fail
   refine (key_any s _ hsz).mono ?_
   rintro e w1 ⟨rfl,hb⟩
   have HB2:=Lib.hid (HB.out.trans (hb.mono HB.out.size))
   clear hb
   cases hp:keyB s
   ·have hz:false=x:=by
     rw [←HX.out,eq_comm,←Bool.not_eq_true,List.all_eq_true]
     intro h
     rw [h s hin] at hp
     cases hp
    subst hz
    clear hp hin
    go_wp2_with fail
    refine leaves_cons (f:=268) (args:=#[]) (by simp) (by simp [go_sem]) ?_
    refine (rec_idle _).mono ?_
    rintro e u' w'' ⟨rfl,rfl,rfl⟩
    exact ⟨_,results_tmp rfl _ _ _,rfl,HB2.out⟩
   ·have HP:=Lib.hid hp
    clear hp hin
    go_wp2_with fail
    refine ⟨⟨k+1,by omega,by go_num,HB2.out,fun j hj=>?_⟩,by simp [intOf];omega⟩
    by_cases e:j=k
    ·subst e;rw [←HSE.out];exact HP.out
    ·exact HOK.out j (by omega)
  ·have hz:true=x:=by
    rw [←HX.out,eq_comm,List.all_eq_true]
    intro s hs
    obtain ⟨i,hi,rfl⟩:=List.getElem_of_mem hs
    have:=HOK.out i (by omega)
    rw [List.getD_eq_getElem?_getD,List.getElem?_eq_getElem hi] at this
    exact this
   subst hz
   go_wp2_with fail
   refine leaves_cons (f:=268) (args:=#[]) (by simp) (by simp [go_sem]) ?_
   refine (rec_idle _).mono ?_
   rintro e u' w'' ⟨rfl,rfl,rfl⟩
   exact ⟨_,results_tmp rfl _ _ _,rfl,HB.out⟩
end Go.Proofs.YtajmeimjaapagaaGreatDoor
