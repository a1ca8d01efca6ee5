/- A part. -/
import Derived.Test.YtnemlgfldfedpaaGreatDoorTcr32
set_option linter.unusedVariables false
set_option linter.unusedSimpArgs false
namespace Go.Proofs.YtnemlgfldfedpaaGreatDoor
open Go.RowKit Go.Deep
theorem nots_at {s:ByteArray} (h:notsB s=true) (k:Nat) (hk:k<s.size):s[k]=0:=by
 unfold notsB at h
 have e:=of_decide_eq_true h
 have e2:s.data.toList=List.replicate s.size 0:=congrArg (fun b:ByteArray=>b.data.toList) e
 have hk2:k<s.data.toList.length:=hk
 have e3:s.data.toList[k]? = some 0:=by rw [e2,List.getElem?_replicate,if_pos hk]
 rw [List.getElem?_eq_getElem hk2] at e3
 exact Option.some.inj e3
theorem nots_all {s:ByteArray} (h:∀ j (hj:j<s.size),s[j]=0):notsB s=true:=by
 refine decide_eq_true ?_
 have e:s.data.toList=List.replicate s.size 0:=List.eq_replicate_iff.2 ⟨rfl,fun b hb=>by
  obtain ⟨j,hj,rfl⟩:=List.mem_iff_getElem.1 hb
  exact h j hj⟩
 show s=⟨(List.replicate s.size 0).toArray⟩
 rw [←e]
def inNum (n:Int):Bool:=decide (0≤n) && decide (n≤1099511627776)
theorem rnum_any (n:Int) (x:Bool) (w:World) (hx:inNum n=x):Calls Tryz.prog 60 #[.int .i64 n] w fun e w'=>e = .returned (.bool x)∧w=w':=by
 unfold inNum at hx
 by_cases h0:0≤n
 ·by_cases h1:n≤1099511627776
  ·obtain rfl:true=x:=by rw [←hx,decide_eq_true h0,decide_eq_true h1];rfl
   clear hx
   go_enter Tryz.func60,Tryz.ntmps60
   go_wp2
   go_ret
   exact ⟨rfl,rfl⟩
  ·obtain rfl:false=x:=by rw [←hx,decide_eq_false h1,Bool.and_false]
   clear hx
   go_enter Tryz.func60,Tryz.ntmps60
   go_wp2
   go_ret
   exact ⟨rfl,rfl⟩
 ·obtain rfl:false=x:=by rw [←hx,decide_eq_false h0,Bool.false_and]
  have hd:decide (0≤n)=false:=decide_eq_false h0
  clear hx
  go_enter Tryz.func60,Tryz.ntmps60
  go_wp2
  go_ret
  exact ⟨rfl,rfl⟩
theorem rtopic_at (s:ByteArray) (z:Bool) (W:World) (hs:s.size≤maxLen) (hz:topicB s=z):Calls Tryz.prog 97 #[.string s] W fun e w'=>e = .returned (.bool z)∧W=w':=hz▸refTopic_any s W hs
theorem rtag_at (s:ByteArray) (z:Bool) (W:World) (hs:s.size≤maxLen) (hz:tagB s=z):Calls Tryz.prog 98 #[.string s] W fun e w'=>e = .returned (.bool z)∧W=w':=hz▸refTag_any s W hs
theorem rkey_at (s:ByteArray) (z:Bool) (W:World) (hs:s.size≤maxLen) (hz:keyB s=z):Calls Tryz.prog 99 #[.string s] W fun e w'=>e = .returned (.bool z)∧W=w':=hz▸refKey_any s W hs
theorem whole_iff {m:MsgM}:wholeB m=true↔(0≤m.queue∧m.queue≤2)∧(0≤m.retry∧m.retry≤4)∧topicB m.topic=true∧tagB m.tag=true∧m.keys.length≤3∧m.body.size≤200∧(∀ t∈m.keys,keyB t=true)∧unlikeB m.keys=true:=by
 unfold wholeB keysB allIn
 simp only [Bool.and_eq_true,List.all_cons,List.all_nil,Bool.and_true,decide_eq_true_eq,List.all_eq_true]
 constructor
 ·rintro ⟨h1,h2,h3,h4,⟨h5,h6,h7⟩,h8⟩
  exact ⟨h1,h2,h3,h4,h5,h8,h6,h7⟩
 ·rintro ⟨h1,h2,h3,h4,h5,h8,h6,h7⟩
  exact ⟨h1,h2,h3,h4,⟨h5,h6,h7⟩,h8⟩
theorem mem_take (l:List ByteArray) {j k:Nat} (h:j<k) (hk:k<l.length):l.getD j ⟨#[]⟩∈l.take k:=by
 rw [List.getD_eq_getElem?_getD,List.getElem?_eq_getElem (by omega),Option.getD_some]
 exact List.mem_take_iff_getElem.2 ⟨j,by omega,rfl⟩
set_option maxHeartbeats 4000000 in
set_option maxRecDepth 100000 in
theorem rcarries_any (m:MsgM) (vk:Value) (x:Bool) (w:World) (hk:Strs w 0 vk m.keys) (hs:Sound m) (hx:wholeB m=x) :
 Calls Tryz.prog 61 #[m.val vk] w fun e w'=>e = .returned (.bool x)∧Below w.heap.size w w':=by
 have hno:∀ (P:Prop),P→((0≤m.queue∧m.queue≤2)∧(0≤m.retry∧m.retry≤4)∧topicB m.topic=true∧tagB m.tag=true∧m.keys.length≤3∧m.body.size≤200∧(∀ t∈m.keys,keyB t=true)∧unlikeB m.keys=true→¬ P)→x=false:=fun P hp h=>by
  rw [←hx]
  exact Bool.eq_false_iff.2 fun e=>h (whole_iff.1 e) hp
 have hyes:((0≤m.queue∧m.queue≤2)∧(0≤m.retry∧m.retry≤4)∧topicB m.topic=true∧tagB m.tag=true∧m.keys.length≤3∧m.body.size≤200∧(∀ t∈m.keys,keyB t=true)∧unlikeB m.keys=true)→x=true:=fun h=>by rw [←hx];exact whole_iff.2 h
 obtain ⟨z1,h1⟩:∃ z,topicB m.topic=z:=⟨_,rfl⟩
 obtain ⟨z2,h2⟩:∃ z,tagB m.tag=z:=⟨_,rfl⟩
 have HTO:=Lib.hid fun W=>rtopic_at m.topic z1 W hs.topic h1
 have HTG:=Lib.hid fun W=>rtag_at m.tag z2 W hs.tag h2
 have HK:=Lib.hid hk
 have HS:=Lib.hid hs
 obtain ⟨a,cap,rfl⟩:=hk.form
 have HB:Hid (∀ c:Array Value,Below w.heap.size w (w.alloc (.cells c 30))):=Lib.hid fun c=>(Below.refl w.heap.size w).alloc (Nat.le_refl _) _
 unfold MsgM.val MsgM.cells
 clear hx hk hs
 cases z1
 ·obtain rfl:x=false:=hno _ h1 (fun h e=>by rw [h.2.2.1] at e;cases e)
  clear hno hyes h1 h2
  go_enter Tryz.func61,Tryz.ntmps61
  go_wp2_with fail
  refine (HTO.out _).mono ?_
  rintro e w1 ⟨rfl,rfl⟩
  go_wp2_with fail
  go_ret
  exact ⟨rfl,HB.out _⟩
 cases z2
 ·obtain rfl:x=false:=hno _ h2 (fun h e=>by rw [h.2.2.2.1] at e;cases e)
  clear hno hyes h1 h2
  go_enter Tryz.func61,Tryz.ntmps61
  go_wp2_with fail
  refine (HTO.out _).mono ?_
  rintro e w1 ⟨rfl,rfl⟩
  go_wp2_with fail
  refine (HTG.out _).mono ?_
  rintro e w1 ⟨rfl,rfl⟩
  go_wp2_with fail
  go_ret
  exact ⟨rfl,HB.out _⟩
 by_cases c11:m.queue<0
 ·obtain rfl:x=false:=hno _ c11 (fun h=>by have:=h.1.1;omega)
  clear hno hyes h1 h2
  go_enter Tryz.func61,Tryz.ntmps61
  go_wp2_with fail
  refine (HTO.out _).mono ?_
  rintro e w1 ⟨rfl,rfl⟩
  go_wp2_with fail
  refine (HTG.out _).mono ?_
  rintro e w1 ⟨rfl,rfl⟩
  go_wp2_with fail
  go_ret
  exact ⟨rfl,HB.out _⟩
 by_cases c12:2<m.queue
 ·obtain rfl:x=false:=hno _ c12 (fun h=>by have:=h.1.2;omega)
  clear hno hyes h1 h2
  go_enter Tryz.func61,Tryz.ntmps61
  go_wp2_with fail
  refine (HTO.out _).mono ?_
  rintro e w1 ⟨rfl,rfl⟩
  go_wp2_with fail
  refine (HTG.out _).mono ?_
  rintro e w1 ⟨rfl,rfl⟩
  go_wp2_with fail
  go_ret
  exact ⟨rfl,HB.out _⟩
 by_cases c211:m.retry<0
 ·obtain rfl:x=false:=hno _ c211 (fun h=>by have:=h.2.1.1;omega)
  clear hno hyes h1 h2
  go_enter Tryz.func61,Tryz.ntmps61
  go_wp2_with fail
  refine (HTO.out _).mono ?_
  rintro e w1 ⟨rfl,rfl⟩
  go_wp2_with fail
  refine (HTG.out _).mono ?_
  rintro e w1 ⟨rfl,rfl⟩
  go_wp2_with fail
  go_ret
  exact ⟨rfl,HB.out _⟩
 by_cases c212:4<m.retry
 ·obtain rfl:x=false:=hno _ c212 (fun h=>by have:=h.2.1.2;omega)
  clear hno hyes h1 h2
  go_enter Tryz.func61,Tryz.ntmps61
  go_wp2_with fail
  refine (HTO.out _).mono ?_
  rintro e w1 ⟨rfl,rfl⟩
  go_wp2_with fail
  refine (HTG.out _).mono ?_
  rintro e w1 ⟨rfl,rfl⟩
  go_wp2_with fail
  go_ret
  exact ⟨rfl,HB.out _⟩
 by_cases c22221:3<m.keys.length
 ·obtain rfl:x=false:=hno _ c22221 (fun h=>by have:=h.2.2.2.2.1;omega)
  clear hno hyes h1 h2
  go_enter Tryz.func61,Tryz.ntmps61
  go_wp2_with fail
  refine (HTO.out _).mono ?_
  rintro e w1 ⟨rfl,rfl⟩
  go_wp2_with fail
  refine (HTG.out _).mono ?_
  rintro e w1 ⟨rfl,rfl⟩
  go_wp2_with fail
  go_ret
  exact ⟨rfl,HB.out _⟩
 by_cases c222221:200<m.body.size
 ·obtain rfl:x=false:=hno _ c222221 (fun h=>by have:=h.2.2.2.2.2.1;omega)
  clear hno hyes h1 h2
  go_enter Tryz.func61,Tryz.ntmps61
  go_wp2_with fail
  refine (HTO.out _).mono ?_
  rintro e w1 ⟨rfl,rfl⟩
  go_wp2_with fail
  refine (HTG.out _).mono ?_
  rintro e w1 ⟨rfl,rfl⟩
  go_wp2_with fail
  go_ret
  exact ⟨rfl,HB.out _⟩
 obtain ⟨ks,hks⟩:∃ ks,ks=m.keys:=⟨_,rfl⟩
 rw [←hks] at hno hyes ⊢
 have HKS:=Lib.hid hks
 have HNO:=Lib.hid hno
 have hY:(∀ t∈ks,keyB t=true)→unlikeB ks=true→x=true:=fun p q=>hyes ⟨⟨by omega,by omega⟩,⟨by omega,by omega⟩,h1,h2,by rw [hks];omega,by omega,p,q⟩
 have HYES:=Lib.hid hY
 have hl3:ks.length≤3:=by rw [hks];omega
 have HKK:Hid (Strs w 0 (.slice a ks.length cap) ks):=Lib.hid (by have:=HK.out;rw [←hks] at this;exact this)
 have HSZ:Hid (∀ t∈ks,t.size≤maxLen):=Lib.hid (by rw [hks];exact HS.out.keys)
 clear hno hyes h1 h2 hks HK HS
 obtain ⟨W,hW⟩:∃ W,W=w.alloc (.cells #[.int .i64 m.kind,.int .i64 m.queue,.int .i64 m.due,.int .i64 m.retry,.int .i64 m.ref,.int .i64 m.born,.string m.topic,.string m.tag,.string m.body,.slice a ks.length cap] 30):=⟨_,rfl⟩
 have hcells:∀ i,W.cell? ⟨w.heap.size,i,none⟩=(#[.int .i64 m.kind,.int .i64 m.queue,.int .i64 m.due,.int .i64 m.retry,.int .i64 m.ref,.int .i64 m.born,.string m.topic,.string m.tag,.string m.body,.slice a ks.length cap]:Array Value)[i]?:=by rw [hW];exact (Box.new w _).cell
 have HBW:Hid (Below w.heap.size w W):=Lib.hid (by rw [hW];exact HB.out _)
 have HKW:Hid (Strs W 0 (.slice a ks.length cap) ks):=Lib.hid (HKK.out.below HBW.out (Nat.le_refl _))
 have HWW:=Lib.hid hW
 clear hW HB
 go_enter Tryz.func61,Tryz.ntmps61
 go_wp2_with fail
 rw [←HWW.out]
 refine (HTO.out _).mono ?_
 rintro e w1 ⟨rfl,rfl⟩
 go_wp2_with fail
 refine (HTG.out _).mono ?_
 rintro e w1 ⟨rfl,rfl⟩
 go_wp2_with fail
 go_loopw [3] (fun i wr=>∃ k:Nat,k≤ks.length∧i = .int .i64 k∧Hid (∀ j,j<k→keyB (ks.getD j ⟨#[]⟩)=true∧¬ ks.getD j ⟨#[]⟩∈ks.take j)∧∃ d,wr=W.drewN d) (fun i _=>ks.length - (intOf i).toNat)
 case atStart=>exact ⟨0,Nat.zero_le _,rfl,Lib.hid fun j hj=>by omega,0,rfl⟩
 case round=>
  obtain ⟨k,hk,rfl,hok,d0,rfl⟩:=hrel
  by_cases hlt:k<ks.length
  ·obtain ⟨b,o,rfl,hck⟩:=HKW.out.cellAt hlt
   obtain ⟨t,ht⟩:∃ t,t=ks.getD k ⟨#[]⟩:=⟨_,rfl⟩
   rw [←ht] at hck
   have hmem:t∈ks:=by rw [ht,List.getD_eq_getElem?_getD,List.getElem?_eq_getElem hlt];exact List.getElem_mem hlt
   have hts:=HSZ.out t hmem
   have HMEM:=Lib.hid hmem
   have HT:=Lib.hid ht
   obtain ⟨z,hz⟩:∃ z,keyB t=z:=⟨_,rfl⟩
   have HKY:=Lib.hid fun W=>rkey_at t z W hts hz
   have HZ:=Lib.hid hz
   clear ht hz hmem hts
   cases z
   ·obtain rfl:x=false:=HNO.out _ HZ.out (fun h e=>by rw [h.2.2.2.2.2.2.1 t HMEM.out] at e;cases e)
    go_wp2_with fail
    refine (HKY.out _).mono ?_
    rintro e w1 ⟨rfl,rfl⟩
    go_wp2_with fail
    go_ret
    exact ⟨rfl,below_drewN HBW.out _⟩
   ·go_wp2_with fail
    refine (HKY.out _).mono ?_
    rintro e w1 ⟨rfl,rfl⟩
    go_wp2_with fail
    go_loopw [4] (fun i wr=>∃ j:Nat,j≤k∧i = .int .i64 j∧Hid (∀ i,i<j→ks.getD i ⟨#[]⟩≠t)∧∃ d,wr=W.drewN d) (fun i _=>k - (intOf i).toNat)
    case atStart=>exact ⟨0,Nat.zero_le _,rfl,Lib.hid fun i hi=>by omega,d0,rfl⟩
    case round=>
     obtain ⟨j,hj,rfl,hun,d,rfl⟩:=hrel
     by_cases hjk:j<k
     ·obtain ⟨b',o',hbo,hcj⟩:=HKW.out.cellAt (i:=j) (by omega)
      simp only [Option.some.injEq,Addr.mk.injEq,and_true] at hbo
      obtain ⟨rfl,rfl⟩:=hbo
      obtain ⟨u,hu⟩:∃ t,t=ks.getD j ⟨#[]⟩:=⟨_,rfl⟩
      rw [←hu] at hcj
      have HU:=Lib.hid hu
      have hj1:(j:Int)<ks.length:=by omega
      have hk1:(k:Int)<ks.length:=by omega
      have hj2:j<ks.length:=by omega
      clear hu
      by_cases htu:u=t
      ·have HTU:=Lib.hid htu
       obtain rfl:x=false:=HNO.out _ HT.out (fun h e=>by
        have:=unlikeB_iff.1 h.2.2.2.2.2.2.2 k hlt
        rw [←e,←htu,HU.out] at this
        exact this (mem_take ks hjk hlt))
       have h1:(u.toList == t.toList)=true:=by rw [htu];simp
       clear htu
       go_wp2_with fail
       go_quiet (fail)
       go_wp2_with fail
       go_ret
       exact ⟨rfl,by repeat (first|exact HBW.out|with_reducible refine below_drewN ?_ _)⟩
      ·have hne:u.toList≠t.toList:=fun h=>htu (by rw [←ba_toList u,h,ba_toList t])
       have h1:(u.toList == t.toList)=false:=by simpa using hne
       have HTU:=Lib.hid htu
       clear htu hne
       go_wp2_with fail
       go_quiet (fail)
       go_wp2_with fail
       refine ⟨⟨j+1,by omega,by go_num,Lib.hid fun i hi=>?_,_,rfl⟩,by simp [intOf];omega⟩
       rcases Nat.lt_succ_iff_lt_or_eq.1 hi with h|rfl
       ·exact hun.out i h
       ·rw [←HU.out];exact HTU.out
     ·obtain rfl:j=k:=by omega
      go_wp2_with fail
      refine ⟨⟨j+1,by omega,by go_num,Lib.hid fun i hi=>?_,_,rfl⟩,by simp [intOf];omega⟩
      rcases Nat.lt_succ_iff_lt_or_eq.1 hi with h|rfl
      ·exact hok.out i h
      ·refine ⟨by rw [←HT.out];exact HZ.out,fun hm=>?_⟩
       obtain ⟨q,hq,he⟩:=List.mem_take_iff_getElem.1 hm
       refine hun.out q (by omega) ?_
       rw [List.getD_eq_getElem?_getD,List.getElem?_eq_getElem (by omega),Option.getD_some,he,←HT.out]
  ·obtain rfl:k=ks.length:=by omega
   have hy:x=true:=HYES.out (fun t ht=>by
    obtain ⟨j,hj,rfl⟩:=List.mem_iff_getElem.1 ht
    have:=(hok.out j hj).1
    rw [List.getD_eq_getElem?_getD,List.getElem?_eq_getElem hj] at this
    exact this) (unlikeB_iff.2 fun i hi=>(hok.out i hi).2)
   subst hy
   go_wp2_with fail
   go_ret
   exact ⟨rfl,below_drewN HBW.out _⟩
theorem bare_iff {m:MsgM}:bareB m=true↔m.queue=0∧m.due=0∧m.retry=0∧m.keys.length=0∧m.topic.toList.isEmpty=true∧m.tag.toList.isEmpty=true:=by
 unfold bareB allIn
 simp only [Bool.and_eq_true,List.all_cons,List.all_nil,Bool.and_true,decide_eq_true_eq]
 constructor
 ·rintro ⟨⟨h1,h2,h3,h4⟩,h5,h6⟩
  exact ⟨by omega,by omega,by omega,by omega,h5,h6⟩
 ·rintro ⟨h1,h2,h3,h4,h5,h6⟩
  exact ⟨⟨by omega,by omega,by omega,by omega⟩,h5,h6⟩
theorem right_nums {m:MsgM} (h:rightB m=true):(0≤m.kind∧m.kind≤1099511627776)∧inNum m.due=true∧inNum m.ref=true∧inNum m.born=true∧restB m=true:=by
 unfold rightB allIn MsgM.nums at h
 unfold inNum
 simp only [Bool.and_eq_true,List.all_cons,List.all_nil,Bool.and_true,decide_eq_true_eq] at h ⊢
 obtain ⟨⟨h1,h2,h3,h4,h5,h6⟩,h7⟩:=h
 exact ⟨h1,h3,h5,h6,h7⟩
theorem right_of {m:MsgM} (hk:0≤m.kind∧m.kind≤4) (hq:0≤m.queue∧m.queue≤2) (hr:0≤m.retry∧m.retry≤4) (hd:inNum m.due=true) (hf:inNum m.ref=true) (hb:inNum m.born=true) (h:restB m=true):rightB m=true:=by
 unfold rightB allIn MsgM.nums
 unfold inNum at hd hf hb
 simp only [Bool.and_eq_true,List.all_cons,List.all_nil,Bool.and_true,decide_eq_true_eq] at hd hf hb ⊢
 exact ⟨⟨by omega,by omega,hd,by omega,hf,hb⟩,h⟩
set_option maxHeartbeats 8000000 in
set_option maxRecDepth 100000 in
theorem rright_nums (m:MsgM) (vk:Value) (x:Bool) (w:World) (hk:Strs w 0 vk m.keys) (hs:Sound m) (hx:rightB m=x) (hA:¬ (inNum m.due=true∧inNum m.ref=true∧inNum m.born=true)) :
 Calls Tryz.prog 30 #[m.val vk] w fun e w'=>e = .returned (.bool x)∧Below w.heap.size w w':=by
 have hno:(¬ rightB m=true)→x=false:=fun h=>by rw [←hx];exact Bool.eq_false_iff.2 h
 have hyes:rightB m=true→x=true:=fun h=>by rw [←hx];exact h
 obtain ⟨z1,h1⟩:∃ z,inNum m.due=z:=⟨_,rfl⟩
 obtain ⟨z2,h2⟩:∃ z,inNum m.ref=z:=⟨_,rfl⟩
 obtain ⟨z3,h3⟩:∃ z,inNum m.born=z:=⟨_,rfl⟩
 obtain ⟨zw,hw⟩:∃ z,wholeB m=z:=⟨_,rfl⟩
 have HN1:=Lib.hid fun W=>rnum_any m.due _ W h1
 have HN2:=Lib.hid fun W=>rnum_any m.ref _ W h2
 have HN3:=Lib.hid fun W=>rnum_any m.born _ W h3
 have HCA:Hid (∀ W,Below w.heap.size w W→Calls Tryz.prog 61 #[m.val vk] W fun e w'=>e = .returned (.bool zw)∧Below W.heap.size W w'):=Lib.hid fun W hb=>rcarries_any m vk zw W (hk.below hb (Nat.le_refl _)) hs hw
 have hbz:=hs.body
 obtain ⟨a,cap,rfl⟩:=hk.form
 have HB:Hid (∀ c:Array Value,Below w.heap.size w (w.alloc (.cells c 30))):=Lib.hid fun c=>(Below.refl w.heap.size w).alloc (Nat.le_refl _) _
 unfold MsgM.val MsgM.cells at *
 clear hx hk hs
 cases z1
 ·obtain rfl:x=false:=hno fun h=>by have:=(right_nums h).2.1;rw [h1] at this;cases this
  clear hno hyes h1 h2 h3 hw
  go_enter Tryz.func30,Tryz.ntmps30
  go_wp2_with fail
  refine (HN1.out _).mono ?_
  rintro e w1 ⟨rfl,rfl⟩
  go_wp2_with fail
  go_ret
  exact ⟨rfl,HB.out _⟩
 cases z2
 ·obtain rfl:x=false:=hno fun h=>by have:=(right_nums h).2.2.1;rw [h2] at this;cases this
  clear hno hyes h1 h2 h3 hw
  go_enter Tryz.func30,Tryz.ntmps30
  go_wp2_with fail
  refine (HN1.out _).mono ?_
  rintro e w1 ⟨rfl,rfl⟩
  go_wp2_with fail
  refine (HN2.out _).mono ?_
  rintro e w1 ⟨rfl,rfl⟩
  go_wp2_with fail
  go_ret
  exact ⟨rfl,HB.out _⟩
 cases z3
 ·obtain rfl:x=false:=hno fun h=>by have:=(right_nums h).2.2.2.1;rw [h3] at this;cases this
  clear hno hyes h1 h2 h3 hw
  go_enter Tryz.func30,Tryz.ntmps30
  go_wp2_with fail
  refine (HN1.out _).mono ?_
  rintro e w1 ⟨rfl,rfl⟩
  go_wp2_with fail
  refine (HN2.out _).mono ?_
  rintro e w1 ⟨rfl,rfl⟩
  go_wp2_with fail
  refine (HN3.out _).mono ?_
  rintro e w1 ⟨rfl,rfl⟩
  go_wp2_with fail
  go_ret
  exact ⟨rfl,HB.out _⟩
 exact absurd ⟨h1,h2,h3⟩ hA
set_option maxHeartbeats 8000000 in
set_option maxRecDepth 100000 in
theorem rright_one (m:MsgM) (vk:Value) (x:Bool) (w:World) (hk:Strs w 0 vk m.keys) (hs:Sound m) (hx:rightB m=x) (hz1:inNum m.due=true) (hz2:inNum m.ref=true) (hz3:inNum m.born=true) (k1:m.kind=1) :
 Calls Tryz.prog 30 #[m.val vk] w fun e w'=>e = .returned (.bool x)∧Below w.heap.size w w':=by
 have hno:(¬ rightB m=true)→x=false:=fun h=>by rw [←hx];exact Bool.eq_false_iff.2 h
 have hyes:rightB m=true→x=true:=fun h=>by rw [←hx];exact h
 obtain ⟨z1,h1⟩:∃ z,inNum m.due=z:=⟨_,rfl⟩
 obtain ⟨z2,h2⟩:∃ z,inNum m.ref=z:=⟨_,rfl⟩
 obtain ⟨z3,h3⟩:∃ z,inNum m.born=z:=⟨_,rfl⟩
 obtain ⟨zw,hw⟩:∃ z,wholeB m=z:=⟨_,rfl⟩
 obtain rfl:z1=true:=h1.symm.trans hz1
 obtain rfl:z2=true:=h2.symm.trans hz2
 obtain rfl:z3=true:=h3.symm.trans hz3
 clear hz1 hz2 hz3
 have HN1:=Lib.hid fun W=>rnum_any m.due _ W h1
 have HN2:=Lib.hid fun W=>rnum_any m.ref _ W h2
 have HN3:=Lib.hid fun W=>rnum_any m.born _ W h3
 have HCA:Hid (∀ W,Below w.heap.size w W→Calls Tryz.prog 61 #[m.val vk] W fun e w'=>e = .returned (.bool zw)∧Below W.heap.size W w'):=Lib.hid fun W hb=>rcarries_any m vk zw W (hk.below hb (Nat.le_refl _)) hs hw
 have hbz:=hs.body
 obtain ⟨a,cap,rfl⟩:=hk.form
 have HB:Hid (∀ c:Array Value,Below w.heap.size w (w.alloc (.cells c 30))):=Lib.hid fun c=>(Below.refl w.heap.size w).alloc (Nat.le_refl _) _
 unfold MsgM.val MsgM.cells at *
 clear hx hk hs
 ·have hrest:restB m=(wholeB m && allIn 0 0 [m.due,m.ref]):=by unfold restB;rw [if_neg (by omega),if_pos k1]
  have hkb:(m.kind == 1)=true:=by simpa using k1
  have HK1:=Lib.hid k1
  cases zw
  ·obtain rfl:x=false:=hno fun h=>by have:=(right_nums h).2.2.2.2;rw [hrest,hw] at this;cases this
   clear hno hyes h1 h2 h3 hw hrest k1
   go_enter Tryz.func30,Tryz.ntmps30
   go_wp2_with fail
   refine (HN1.out _).mono ?_
   rintro e w1 ⟨rfl,rfl⟩
   go_wp2_with fail
   refine (HN2.out _).mono ?_
   rintro e w1 ⟨rfl,rfl⟩
   go_wp2_with fail
   refine (HN3.out _).mono ?_
   rintro e w1 ⟨rfl,rfl⟩
   go_wp2_with fail
   refine (HCA.out _ (HB.out _)).mono ?_
   rintro e w2 ⟨rfl,hb⟩
   have hc0:=(bcell hb).1 w.heap.size
   have HB2:=Lib.hid ((HB.out _).trans (hb.mono (by simp)))
   have hlt:w.heap.size<w.heap.size+1:=by omega
   clear hb
   go_wp2_with fail
   go_ret
   exact ⟨rfl,HB2.out⟩
  have hwh:=whole_iff.1 hw
  by_cases d0:m.due=0
  case neg=>
   obtain rfl:x=false:=hno fun h=>by
    have:=(right_nums h).2.2.2.2
    rw [hrest,hw] at this
    unfold allIn at this
    simp only [Bool.true_and,List.all_cons,List.all_nil,Bool.and_true,Bool.and_eq_true,decide_eq_true_eq] at this
    omega
   have hd:(m.due == 0)=false:=by simpa using d0
   clear hno hyes h1 h2 h3 hw hrest k1 hwh d0
   go_enter Tryz.func30,Tryz.ntmps30
   go_wp2_with fail
   refine (HN1.out _).mono ?_
   rintro e w1 ⟨rfl,rfl⟩
   go_wp2_with fail
   refine (HN2.out _).mono ?_
   rintro e w1 ⟨rfl,rfl⟩
   go_wp2_with fail
   refine (HN3.out _).mono ?_
   rintro e w1 ⟨rfl,rfl⟩
   go_wp2_with fail
   refine (HCA.out _ (HB.out _)).mono ?_
   rintro e w2 ⟨rfl,hb⟩
   have hc0:=(bcell hb).1 w.heap.size
   have HB2:=Lib.hid ((HB.out _).trans (hb.mono (by simp)))
   have hlt:w.heap.size<w.heap.size+1:=by omega
   clear hb
   go_wp2_with fail
   go_ret
   exact ⟨rfl,HB2.out⟩
  have hdd:(m.due == 0)=true:=by simpa using d0
  have D0:=Lib.hid d0
  clear d0
  by_cases f0:m.ref=0
  case neg=>
   obtain rfl:x=false:=hno fun h=>by
    have:=(right_nums h).2.2.2.2
    rw [hrest,hw] at this
    unfold allIn at this
    simp only [Bool.true_and,List.all_cons,List.all_nil,Bool.and_true,Bool.and_eq_true,decide_eq_true_eq] at this
    omega
   have hd:(m.ref == 0)=false:=by simpa using f0
   clear hno hyes h1 h2 h3 hw hrest k1 hwh f0
   go_enter Tryz.func30,Tryz.ntmps30
   go_wp2_with fail
   refine (HN1.out _).mono ?_
   rintro e w1 ⟨rfl,rfl⟩
   go_wp2_with fail
   refine (HN2.out _).mono ?_
   rintro e w1 ⟨rfl,rfl⟩
   go_wp2_with fail
   refine (HN3.out _).mono ?_
   rintro e w1 ⟨rfl,rfl⟩
   go_wp2_with fail
   refine (HCA.out _ (HB.out _)).mono ?_
   rintro e w2 ⟨rfl,hb⟩
   have hc0:=(bcell hb).1 w.heap.size
   have HB2:=Lib.hid ((HB.out _).trans (hb.mono (by simp)))
   have hlt:w.heap.size<w.heap.size+1:=by omega
   clear hb
   go_wp2_with fail
   go_ret
   exact ⟨rfl,HB2.out⟩
  obtain rfl:x=true:=hyes (right_of ⟨by omega,by omega⟩ hwh.1 hwh.2.1 h1 h2 h3 (by rw [hrest,hw,D0.out,f0];rfl))
  have hff:(m.ref == 0)=true:=by simpa using f0
  clear f0
  clear hno hyes h1 h2 h3 hw hrest k1 hwh
  go_enter Tryz.func30,Tryz.ntmps30
  go_wp2_with fail
  refine (HN1.out _).mono ?_
  rintro e w1 ⟨rfl,rfl⟩
  go_wp2_with fail
  refine (HN2.out _).mono ?_
  rintro e w1 ⟨rfl,rfl⟩
  go_wp2_with fail
  refine (HN3.out _).mono ?_
  rintro e w1 ⟨rfl,rfl⟩
  go_wp2_with fail
  refine (HCA.out _ (HB.out _)).mono ?_
  rintro e w2 ⟨rfl,hb⟩
  have hc0:=(bcell hb).1 w.heap.size
  have HB2:=Lib.hid ((HB.out _).trans (hb.mono (by simp)))
  have hlt:w.heap.size<w.heap.size+1:=by omega
  clear hb
  go_wp2_with fail
  go_ret
  exact ⟨rfl,HB2.out⟩
set_option maxHeartbeats 8000000 in
set_option maxRecDepth 100000 in
theorem rright_two (m:MsgM) (vk:Value) (x:Bool) (w:World) (hk:Strs w 0 vk m.keys) (hs:Sound m) (hx:rightB m=x) (hz1:inNum m.due=true) (hz2:inNum m.ref=true) (hz3:inNum m.born=true) (k2:m.kind=2) :
 Calls Tryz.prog 30 #[m.val vk] w fun e w'=>e = .returned (.bool x)∧Below w.heap.size w w':=by
 have hno:(¬ rightB m=true)→x=false:=fun h=>by rw [←hx];exact Bool.eq_false_iff.2 h
 have hyes:rightB m=true→x=true:=fun h=>by rw [←hx];exact h
 obtain ⟨z1,h1⟩:∃ z,inNum m.due=z:=⟨_,rfl⟩
 obtain ⟨z2,h2⟩:∃ z,inNum m.ref=z:=⟨_,rfl⟩
 obtain ⟨z3,h3⟩:∃ z,inNum m.born=z:=⟨_,rfl⟩
 obtain ⟨zw,hw⟩:∃ z,wholeB m=z:=⟨_,rfl⟩
 obtain rfl:z1=true:=h1.symm.trans hz1
 obtain rfl:z2=true:=h2.symm.trans hz2
 obtain rfl:z3=true:=h3.symm.trans hz3
 clear hz1 hz2 hz3
 have HN1:=Lib.hid fun W=>rnum_any m.due _ W h1
 have HN2:=Lib.hid fun W=>rnum_any m.ref _ W h2
 have HN3:=Lib.hid fun W=>rnum_any m.born _ W h3
 have HCA:Hid (∀ W,Below w.heap.size w W→Calls Tryz.prog 61 #[m.val vk] W fun e w'=>e = .returned (.bool zw)∧Below W.heap.size W w'):=Lib.hid fun W hb=>rcarries_any m vk zw W (hk.below hb (Nat.le_refl _)) hs hw
 have hbz:=hs.body
 obtain ⟨a,cap,rfl⟩:=hk.form
 have HB:Hid (∀ c:Array Value,Below w.heap.size w (w.alloc (.cells c 30))):=Lib.hid fun c=>(Below.refl w.heap.size w).alloc (Nat.le_refl _) _
 unfold MsgM.val MsgM.cells at *
 clear hx hk hs
 ·have hrest:restB m=wholeB m:=by unfold restB;rw [if_neg (by omega),if_neg (by omega),if_pos (by omega)]
  obtain rfl:x=zw:=by
   cases zw
   ·exact hno fun h=>by have:=(right_nums h).2.2.2.2;rw [hrest,hw] at this;cases this
   ·have hwh:=whole_iff.1 hw
    exact hyes (right_of ⟨by omega,by omega⟩ hwh.1 hwh.2.1 h1 h2 h3 (by rw [hrest,hw]))
  have bk:(m.kind == 2)=true:=by simpa using k2
  have bk1:(m.kind == 1)=false:=by have:¬ m.kind=1:=by omega
                                   simpa using this
  clear hno hyes h1 h2 h3 hw hrest k2
  go_enter Tryz.func30,Tryz.ntmps30
  go_wp2_with fail
  refine (HN1.out _).mono ?_
  rintro e w1 ⟨rfl,rfl⟩
  go_wp2_with fail
  refine (HN2.out _).mono ?_
  rintro e w1 ⟨rfl,rfl⟩
  go_wp2_with fail
  refine (HN3.out _).mono ?_
  rintro e w1 ⟨rfl,rfl⟩
  go_wp2_with fail
  refine (HCA.out _ (HB.out _)).mono ?_
  rintro e w2 ⟨rfl,hb⟩
  have hc0:=(bcell hb).1 w.heap.size
  have HB2:=Lib.hid ((HB.out _).trans (hb.mono (by simp)))
  have hlt:w.heap.size<w.heap.size+1:=by omega
  clear hb
  go_wp2_with fail
  go_ret
  exact ⟨rfl,HB2.out⟩
set_option maxHeartbeats 8000000 in
set_option maxRecDepth 100000 in
theorem rright_three (m:MsgM) (vk:Value) (x:Bool) (w:World) (hk:Strs w 0 vk m.keys) (hs:Sound m) (hx:rightB m=x) (hz1:inNum m.due=true) (hz2:inNum m.ref=true) (hz3:inNum m.born=true) (k3:m.kind=3) :
 Calls Tryz.prog 30 #[m.val vk] w fun e w'=>e = .returned (.bool x)∧Below w.heap.size w w':=by
 have hno:(¬ rightB m=true)→x=false:=fun h=>by rw [←hx];exact Bool.eq_false_iff.2 h
 have hyes:rightB m=true→x=true:=fun h=>by rw [←hx];exact h
 obtain ⟨z1,h1⟩:∃ z,inNum m.due=z:=⟨_,rfl⟩
 obtain ⟨z2,h2⟩:∃ z,inNum m.ref=z:=⟨_,rfl⟩
 obtain ⟨z3,h3⟩:∃ z,inNum m.born=z:=⟨_,rfl⟩
 obtain ⟨zw,hw⟩:∃ z,wholeB m=z:=⟨_,rfl⟩
 obtain rfl:z1=true:=h1.symm.trans hz1
 obtain rfl:z2=true:=h2.symm.trans hz2
 obtain rfl:z3=true:=h3.symm.trans hz3
 clear hz1 hz2 hz3
 have HN1:=Lib.hid fun W=>rnum_any m.due _ W h1
 have HN2:=Lib.hid fun W=>rnum_any m.ref _ W h2
 have HN3:=Lib.hid fun W=>rnum_any m.born _ W h3
 have HCA:Hid (∀ W,Below w.heap.size w W→Calls Tryz.prog 61 #[m.val vk] W fun e w'=>e = .returned (.bool zw)∧Below W.heap.size W w'):=Lib.hid fun W hb=>rcarries_any m vk zw W (hk.below hb (Nat.le_refl _)) hs hw
 have hbz:=hs.body
 obtain ⟨a,cap,rfl⟩:=hk.form
 have HB:Hid (∀ c:Array Value,Below w.heap.size w (w.alloc (.cells c 30))):=Lib.hid fun c=>(Below.refl w.heap.size w).alloc (Nat.le_refl _) _
 unfold MsgM.val MsgM.cells at *
 clear hx hk hs
 ·have hrest:restB m=wholeB m:=by unfold restB;rw [if_neg (by omega),if_neg (by omega),if_pos (by omega)]
  obtain rfl:x=zw:=by
   cases zw
   ·exact hno fun h=>by have:=(right_nums h).2.2.2.2;rw [hrest,hw] at this;cases this
   ·have hwh:=whole_iff.1 hw
    exact hyes (right_of ⟨by omega,by omega⟩ hwh.1 hwh.2.1 h1 h2 h3 (by rw [hrest,hw]))
  have bk:(m.kind == 3)=true:=by simpa using k3
  have bk1:(m.kind == 1)=false:=by have:¬ m.kind=1:=by omega
                                   simpa using this
  have bk2:(m.kind == 2)=false:=by have:¬ m.kind=2:=by omega
                                   simpa using this
  clear hno hyes h1 h2 h3 hw hrest k3
  go_enter Tryz.func30,Tryz.ntmps30
  go_wp2_with fail
  refine (HN1.out _).mono ?_
  rintro e w1 ⟨rfl,rfl⟩
  go_wp2_with fail
  refine (HN2.out _).mono ?_
  rintro e w1 ⟨rfl,rfl⟩
  go_wp2_with fail
  refine (HN3.out _).mono ?_
  rintro e w1 ⟨rfl,rfl⟩
  go_wp2_with fail
  refine (HCA.out _ (HB.out _)).mono ?_
  rintro e w2 ⟨rfl,hb⟩
  have hc0:=(bcell hb).1 w.heap.size
  have HB2:=Lib.hid ((HB.out _).trans (hb.mono (by simp)))
  have hlt:w.heap.size<w.heap.size+1:=by omega
  clear hb
  go_wp2_with fail
  go_ret
  exact ⟨rfl,HB2.out⟩
set_option maxHeartbeats 8000000 in
set_option maxRecDepth 100000 in
theorem rright_bare (m:MsgM) (vk:Value) (x:Bool) (w:World) (hk:Strs w 0 vk m.keys) (hs:Sound m) (hx:rightB m=x) (hz1:inNum m.due=true) (hz2:inNum m.ref=true) (hz3:inNum m.born=true) (k1:¬ m.kind=1) (k2:¬ m.kind=2) (k3:¬ m.kind=3) :
 Calls Tryz.prog 30 #[m.val vk] w fun e w'=>e = .returned (.bool x)∧Below w.heap.size w w':=by
 have hno:(¬ rightB m=true)→x=false:=fun h=>by rw [←hx];exact Bool.eq_false_iff.2 h
 have hyes:rightB m=true→x=true:=fun h=>by rw [←hx];exact h
 obtain ⟨z1,h1⟩:∃ z,inNum m.due=z:=⟨_,rfl⟩
 obtain ⟨z2,h2⟩:∃ z,inNum m.ref=z:=⟨_,rfl⟩
 obtain ⟨z3,h3⟩:∃ z,inNum m.born=z:=⟨_,rfl⟩
 obtain ⟨zw,hw⟩:∃ z,wholeB m=z:=⟨_,rfl⟩
 obtain rfl:z1=true:=h1.symm.trans hz1
 obtain rfl:z2=true:=h2.symm.trans hz2
 obtain rfl:z3=true:=h3.symm.trans hz3
 clear hz1 hz2 hz3
 have HN1:=Lib.hid fun W=>rnum_any m.due _ W h1
 have HN2:=Lib.hid fun W=>rnum_any m.ref _ W h2
 have HN3:=Lib.hid fun W=>rnum_any m.born _ W h3
 have HCA:Hid (∀ W,Below w.heap.size w W→Calls Tryz.prog 61 #[m.val vk] W fun e w'=>e = .returned (.bool zw)∧Below W.heap.size W w'):=Lib.hid fun W hb=>rcarries_any m vk zw W (hk.below hb (Nat.le_refl _)) hs hw
 have hbz:=hs.body
 obtain ⟨a,cap,rfl⟩:=hk.form
 have HB:Hid (∀ c:Array Value,Below w.heap.size w (w.alloc (.cells c 30))):=Lib.hid fun c=>(Below.refl w.heap.size w).alloc (Nat.le_refl _) _
 unfold MsgM.val MsgM.cells at *
 clear hx hk hs
 have b1:(m.kind == 1)=false:=by simpa using k1
 have b2:(m.kind == 2)=false:=by simpa using k2
 have b3:(m.kind == 3)=false:=by simpa using k3
 have hbare:rightB m=true→bareB m=true:=fun h=>by
  have:=(right_nums h).2.2.2.2
  unfold restB at this
  by_cases k0:m.kind=0
  ·rw [if_pos k0,Bool.and_eq_true] at this
   exact this.1
  ·rw [if_neg k0,if_neg k1,if_neg (by omega)] at this
   by_cases k4:m.kind=4
   ·rw [if_pos k4,Bool.and_eq_true] at this
    exact this.1
   ·rw [if_neg k4] at this
    cases this
 by_cases qqueue:m.queue=0
 case neg=>
  obtain rfl:x=false:=hno fun h=>qqueue (bare_iff.1 (hbare h)).1
  have hd:(m.queue != 0)=true:=by simpa using qqueue
  clear hno hyes h1 h2 h3 hw hbare k1 k2 k3 qqueue
  go_enter Tryz.func30,Tryz.ntmps30
  go_wp2_with fail
  refine (HN1.out _).mono ?_
  rintro e w1 ⟨rfl,rfl⟩
  go_wp2_with fail
  refine (HN2.out _).mono ?_
  rintro e w1 ⟨rfl,rfl⟩
  go_wp2_with fail
  refine (HN3.out _).mono ?_
  rintro e w1 ⟨rfl,rfl⟩
  go_wp2_with fail
  go_ret
  exact ⟨rfl,HB.out _⟩
 have bqueue:(m.queue != 0)=false:=by simpa using qqueue
 have Qqueue:=Lib.hid qqueue
 clear qqueue
 by_cases qretry:m.retry=0
 case neg=>
  obtain rfl:x=false:=hno fun h=>qretry (bare_iff.1 (hbare h)).2.2.1
  have hd:(m.retry != 0)=true:=by simpa using qretry
  clear hno hyes h1 h2 h3 hw hbare k1 k2 k3 qretry
  go_enter Tryz.func30,Tryz.ntmps30
  go_wp2_with fail
  refine (HN1.out _).mono ?_
  rintro e w1 ⟨rfl,rfl⟩
  go_wp2_with fail
  refine (HN2.out _).mono ?_
  rintro e w1 ⟨rfl,rfl⟩
  go_wp2_with fail
  refine (HN3.out _).mono ?_
  rintro e w1 ⟨rfl,rfl⟩
  go_wp2_with fail
  go_ret
  exact ⟨rfl,HB.out _⟩
 have bretry:(m.retry != 0)=false:=by simpa using qretry
 have Qretry:=Lib.hid qretry
 clear qretry
 by_cases qdue:m.due=0
 case neg=>
  obtain rfl:x=false:=hno fun h=>qdue (bare_iff.1 (hbare h)).2.1
  have hd:(m.due != 0)=true:=by simpa using qdue
  clear hno hyes h1 h2 h3 hw hbare k1 k2 k3 qdue
  go_enter Tryz.func30,Tryz.ntmps30
  go_wp2_with fail
  refine (HN1.out _).mono ?_
  rintro e w1 ⟨rfl,rfl⟩
  go_wp2_with fail
  refine (HN2.out _).mono ?_
  rintro e w1 ⟨rfl,rfl⟩
  go_wp2_with fail
  refine (HN3.out _).mono ?_
  rintro e w1 ⟨rfl,rfl⟩
  go_wp2_with fail
  go_ret
  exact ⟨rfl,HB.out _⟩
 have bdue:(m.due != 0)=false:=by simpa using qdue
 have Qdue:=Lib.hid qdue
 clear qdue
 cases qtopic:m.topic.toList.isEmpty
 case false=>
  obtain rfl:x=false:=hno fun h=>by have:=(bare_iff.1 (hbare h)).2.2.2.2.1;rw [qtopic] at this;cases this
  clear hno hyes h1 h2 h3 hw hbare k1 k2 k3
  go_enter Tryz.func30,Tryz.ntmps30
  go_wp2_with fail
  refine (HN1.out _).mono ?_
  rintro e w1 ⟨rfl,rfl⟩
  go_wp2_with fail
  refine (HN2.out _).mono ?_
  rintro e w1 ⟨rfl,rfl⟩
  go_wp2_with fail
  refine (HN3.out _).mono ?_
  rintro e w1 ⟨rfl,rfl⟩
  go_wp2_with fail
  go_ret
  exact ⟨rfl,HB.out _⟩
 cases qtag:m.tag.toList.isEmpty
 case false=>
  obtain rfl:x=false:=hno fun h=>by have:=(bare_iff.1 (hbare h)).2.2.2.2.2;rw [qtag] at this;cases this
  clear hno hyes h1 h2 h3 hw hbare k1 k2 k3
  go_enter Tryz.func30,Tryz.ntmps30
  go_wp2_with fail
  refine (HN1.out _).mono ?_
  rintro e w1 ⟨rfl,rfl⟩
  go_wp2_with fail
  refine (HN2.out _).mono ?_
  rintro e w1 ⟨rfl,rfl⟩
  go_wp2_with fail
  refine (HN3.out _).mono ?_
  rintro e w1 ⟨rfl,rfl⟩
  go_wp2_with fail
  go_ret
  exact ⟨rfl,HB.out _⟩
 by_cases qk:m.keys.length=0
 case neg=>
  obtain rfl:x=false:=hno fun h=>qk (bare_iff.1 (hbare h)).2.2.2.1
  have hd:((m.keys.length:Int) != 0)=true:=bne_iff_ne.2 (by omega)
  have qk':0<m.keys.length:=by omega
  clear hno hyes h1 h2 h3 hw hbare k1 k2 k3 qk
  go_enter Tryz.func30,Tryz.ntmps30
  go_wp2_with fail
  refine (HN1.out _).mono ?_
  rintro e w1 ⟨rfl,rfl⟩
  go_wp2_with fail
  refine (HN2.out _).mono ?_
  rintro e w1 ⟨rfl,rfl⟩
  go_wp2_with fail
  refine (HN3.out _).mono ?_
  rintro e w1 ⟨rfl,rfl⟩
  go_wp2_with fail
  go_ret
  exact ⟨rfl,HB.out _⟩
 have hba:bareB m=true:=bare_iff.2 ⟨Qqueue.out,Qdue.out,Qretry.out,qk,qtopic,qtag⟩
 by_cases k4:m.kind=4
 ·have hrest:restB m=m.body.toList.isEmpty:=by unfold restB;rw [if_neg (by omega),if_neg (by omega),if_neg (by omega),if_pos k4,hba,Bool.true_and]
  obtain rfl:x=m.body.toList.isEmpty:=by
   cases hbe:m.body.toList.isEmpty with
   | false=>exact hno fun h=>by have:=(right_nums h).2.2.2.2;rw [hrest,hbe] at this;cases this
   | true=>exact hyes (right_of ⟨by omega,by omega⟩ ⟨by have:=Qqueue.out;omega,by have:=Qqueue.out;omega⟩ ⟨by have:=Qretry.out;omega,by have:=Qretry.out;omega⟩ h1 h2 h3 (by rw [hrest,hbe]))
  have b4:(m.kind == 4)=true:=by simpa using k4
  have l0:((m.keys.length:Int) != 0)=false:=bne_eq_false_iff_eq.2 (by omega)
  clear hno hyes h1 h2 h3 hw hbare k1 k2 k3 k4 hrest hba qk
  go_enter Tryz.func30,Tryz.ntmps30
  go_wp2_with fail
  refine (HN1.out _).mono ?_
  rintro e w1 ⟨rfl,rfl⟩
  go_wp2_with fail
  refine (HN2.out _).mono ?_
  rintro e w1 ⟨rfl,rfl⟩
  go_wp2_with fail
  refine (HN3.out _).mono ?_
  rintro e w1 ⟨rfl,rfl⟩
  go_wp2_with fail
  go_ret
  exact ⟨rfl,HB.out _⟩
 have b4:(m.kind == 4)=false:=by simpa using k4
 have l0:((m.keys.length:Int) != 0)=false:=bne_eq_false_iff_eq.2 (by omega)
 have hrest:m.kind=0→restB m=(allIn 0 0 [m.ref,m.born] && (decide (m.body.size≤1024) && notsB m.body)):=fun k0=>by unfold restB;rw [if_pos k0,hba,Bool.true_and]
 have hno0:¬ m.kind=0→x=false:=fun k0=>hno fun h=>by
  have:=(right_nums h).2.2.2.2
  unfold restB at this
  rw [if_neg k0,if_neg k1,if_neg (by omega),if_neg k4] at this
  cases this
 have hno1:(m.kind=0→¬ (m.ref=0∧m.born=0∧m.body.size≤1024∧notsB m.body=true))→x=false:=fun h=>by
  by_cases k0:m.kind=0
  ·refine hno fun hr=>h k0 ?_
   have:=(right_nums hr).2.2.2.2
   rw [hrest k0] at this
   unfold allIn at this
   simp only [List.all_cons,List.all_nil,Bool.and_true,Bool.and_eq_true,decide_eq_true_eq] at this
   exact ⟨by omega,by omega,this.2.1,this.2.2⟩
  ·exact hno0 k0
 have hyes1:m.kind=0→m.ref=0→m.born=0→m.body.size≤1024→notsB m.body=true→x=true:=fun k0 r0 o0 s0 n0=>hyes (right_of ⟨by omega,by omega⟩ ⟨by have:=Qqueue.out;omega,by have:=Qqueue.out;omega⟩ ⟨by have:=Qretry.out;omega,by have:=Qretry.out;omega⟩ h1 h2 h3 (by rw [hrest k0,r0,o0,n0,decide_eq_true s0];rfl))
 have HNO:=Lib.hid hno1
 have HYES:=Lib.hid hyes1
 clear hno hyes h1 h2 h3 hw hbare k1 k2 k3 k4 hrest hno0 hno1 hyes1 hba qk
 go_enter Tryz.func30,Tryz.ntmps30
 go_wp2_with fail
 refine (HN1.out _).mono ?_
 rintro e w1 ⟨rfl,rfl⟩
 go_wp2_with fail
 refine (HN2.out _).mono ?_
 rintro e w1 ⟨rfl,rfl⟩
 go_wp2_with fail
 refine (HN3.out _).mono ?_
 rintro e w1 ⟨rfl,rfl⟩
 go_wp2_with fail
 go_loop [3] (fun i=>∃ k:Nat,k≤m.body.size∧i = .int .i64 k∧Hid (∀ j (h:j<m.body.size),j<k→m.body[j]=0)) (fun i=>m.body.size - (intOf i).toNat)
 case atStart=>exact ⟨0,Nat.zero_le _,rfl,Lib.hid fun j h hj=>by omega⟩
 case round=>
  obtain ⟨k,hk,rfl,hok⟩:=hrel
  by_cases hlt:k<m.body.size
  ·have hkI:(k:Int)<m.body.size:=by omega
   by_cases hb0:m.body[k]=0
   ·have hn:((m.body[k].toNat:Int) != 0)=false:=by rw [hb0];rfl
    have HB0:=Lib.hid hb0
    clear hb0
    go_wp2_with fail
    refine ⟨⟨k+1,by omega,by go_num,Lib.hid fun j h hj=>?_⟩,by simp [intOf];omega⟩
    rcases Nat.lt_succ_iff_lt_or_eq.1 hj with h'|rfl
    ·exact hok.out j h h'
    ·exact HB0.out
   ·have hn:((m.body[k].toNat:Int) != 0)=true:=by
     have:m.body[k].toNat≠0:=fun h=>hb0 (UInt8.toNat.inj h)
     simp;omega
    obtain rfl:x=false:=HNO.out fun _ h=>hb0 (nots_at h.2.2.2 k hlt)
    clear hb0
    go_wp2_with fail
    go_ret
    exact ⟨rfl,HB.out _⟩
  ·obtain rfl:k=m.body.size:=by omega
   have hnots:notsB m.body=true:=nots_all fun j h=>hok.out j h h
   by_cases k0:m.kind=0
   case neg=>
    obtain rfl:x=false:=HNO.out fun h=>absurd h k0
    have hd:(m.kind == 0)=false:=by simpa using k0
    clear k0 hnots
    go_wp2_with fail
    go_ret
    exact ⟨rfl,HB.out _⟩
   by_cases r0:m.ref=0
   case neg=>
    obtain rfl:x=false:=HNO.out fun _ h=>r0 h.1
    have hd:(m.ref == 0)=false:=by simpa using r0
    have hd2:(m.kind == 0)=true:=by simpa using k0
    clear k0 r0 hnots
    go_wp2_with fail
    go_ret
    exact ⟨rfl,HB.out _⟩
   by_cases o0:m.born=0
   case neg=>
    obtain rfl:x=false:=HNO.out fun _ h=>o0 h.2.1
    have hd:(m.born == 0)=false:=by simpa using o0
    have hd2:(m.kind == 0)=true:=by simpa using k0
    have hd3:(m.ref == 0)=true:=by simpa using r0
    clear k0 r0 o0 hnots
    go_wp2_with fail
    go_ret
    exact ⟨rfl,HB.out _⟩
   have hd2:(m.kind == 0)=true:=by simpa using k0
   have hd3:(m.ref == 0)=true:=by simpa using r0
   have hd4:(m.born == 0)=true:=by simpa using o0
   by_cases s0:m.body.size≤1024
   ·obtain rfl:x=true:=HYES.out k0 r0 o0 s0 hnots
    have hs1:(m.body.size:Int)≤1024:=by omega
    have hs2:decide ((m.body.size:Int)≤1024)=true:=decide_eq_true hs1
    clear k0 r0 o0 hnots
    go_wp2_with fail
    go_ret
    exact ⟨rfl,HB.out _⟩
   ·obtain rfl:x=false:=HNO.out fun _ h=>s0 h.2.2.1
    have hs1:¬ (m.body.size:Int)≤1024:=by omega
    have hs2:decide ((m.body.size:Int)≤1024)=false:=decide_eq_false hs1
    clear k0 r0 o0 hnots s0
    go_wp2_with fail
    go_ret
    exact ⟨rfl,HB.out _⟩
theorem rright_any (m:MsgM) (vk:Value) (x:Bool) (w:World) (hk:Strs w 0 vk m.keys) (hs:Sound m) (hx:rightB m=x) :
 Calls Tryz.prog 30 #[m.val vk] w fun e w'=>e = .returned (.bool x)∧Below w.heap.size w w':=by
 by_cases hA:inNum m.due=true∧inNum m.ref=true∧inNum m.born=true
 ·by_cases k1:m.kind=1
  ·exact rright_one m vk x w hk hs hx hA.1 hA.2.1 hA.2.2 k1
  ·by_cases k2:m.kind=2
   ·exact rright_two m vk x w hk hs hx hA.1 hA.2.1 hA.2.2 k2
   ·by_cases k3:m.kind=3
    ·exact rright_three m vk x w hk hs hx hA.1 hA.2.1 hA.2.2 k3
    ·exact rright_bare m vk x w hk hs hx hA.1 hA.2.1 hA.2.2 k1 k2 k3
 ·exact rright_nums m vk x w hk hs hx hA
end Go.Proofs.YtnemlgfldfedpaaGreatDoor
