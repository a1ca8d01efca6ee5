/- A part. -/
import Derived.Test.YtajmeimjaapagaaGreatDoorDor22
import Derived.Test.YtajmeimjaapagaaGreatDoorDor36
set_option linter.unusedVariables false
set_option linter.unusedSimpArgs false
namespace Go.Proofs.YtajmeimjaapagaaGreatDoor
open Go.RowKit Go.Deep
def nots (n:Nat):ByteArray:=⟨(List.replicate n (0:UInt8)).toArray⟩
theorem nots_size (n:Nat):(nots n).size=n:=by
 show (List.replicate n (0:UInt8)).toArray.size=n
 simp
theorem rrepeat_zero (n:Nat):Lib.repeatL [(0:UInt8)] n=List.replicate n 0:=by
 induction n with
 | zero=>rfl
 | succ n ih=>rw [List.replicate_succ,←ih];rfl
theorem nots_any (n:Nat) (w:World) (h:n≤140737488355328):Calls Tryz.prog 168 #[.int .i64 n] w fun e w'=>e = .returned (.string (nots n))∧Below w.heap.size w w':=by
 have hr:=Tryz.strings_Repeat ⟨#[0]⟩ n w (by omega) (by show 1*n≤_;omega)
 have e1:(⟨(Lib.repeatL (⟨#[0]⟩:ByteArray).data.toList n).toArray⟩:ByteArray)=nots n:=by
  show (⟨(Lib.repeatL [(0:UInt8)] n).toArray⟩:ByteArray)=nots n
  rw [rrepeat_zero]
  rfl
 rw [e1] at hr
 have HR:=Lib.hid hr
 clear hr e1
 go_enter Tryz.func168,Tryz.ntmps168
 go_wp2_with (go_at_call 161;refine HR.out.mono ?_)
 rintro e w1 ⟨rfl,hb⟩
 have HB:=Lib.hid hb
 clear hb
 go_wp2_with fail
 go_ret
 exact ⟨rfl,HB.out⟩
def notsB (s:ByteArray):Bool:=decide (s=nots s.size)
theorem areNots_any (s:ByteArray) (x:Bool) (w:World) (h:s.size≤1000000) (hx:notsB s=x):Calls Tryz.prog 180 #[.string s] w fun e w'=>e = .returned (.bool x)∧Below w.heap.size w w':=by
 have HN:=Lib.hid (nots_any s.size w (by omega))
 unfold notsB at hx
 obtain ⟨t,ht⟩:∃ t,t=nots s.size:=⟨_,rfl⟩
 rw [←ht] at HN hx
 clear ht
 by_cases hst:s=t
 ·obtain rfl:true=x:=by rw [←hx,decide_eq_true hst]
  have h1:(s.toList == t.toList)=true:=by rw [hst];simp
  clear hx hst
  go_enter Tryz.func180,Tryz.ntmps180
  go_wp2_with fail
  refine HN.out.mono ?_
  rintro e w1 ⟨rfl,hb⟩
  have HB:=Lib.hid hb
  clear hb
  go_wp2_with fail
  go_ret
  exact ⟨rfl,HB.out⟩
 ·obtain rfl:false=x:=by rw [←hx,decide_eq_false hst]
  have h1:(s.toList == t.toList)=false:=by
   have:s.toList≠t.toList:=fun h=>hst (by rw [←ba_toList s,h,ba_toList t])
   simpa using this
  clear hx hst
  go_enter Tryz.func180,Tryz.ntmps180
  go_wp2_with fail
  refine HN.out.mono ?_
  rintro e w1 ⟨rfl,hb⟩
  have HB:=Lib.hid hb
  clear hb
  go_wp2_with fail
  go_ret
  exact ⟨rfl,HB.out⟩
def MsgM.nums (m:MsgM):List Int:=[m.kind,m.queue,m.due,m.retry,m.ref,m.born]
def NumsTo (m:MsgM) (w:World) (e:Ending) (w':World):Prop:=∃ v,e = .returned v∧Ints w' v m.nums∧Below w.heap.size w w'
theorem numbers_any (m:MsgM) (vk:Value) (w:World):Calls Tryz.prog 201 #[m.val vk] w (NumsTo m w):=by
 unfold MsgM.val MsgM.cells
 go_enter Tryz.func201,Tryz.ntmps201
 go_wp2_with fail
 go_ret
 refine ⟨_,rfl,?_,?_⟩
 ·have:=ints_alloc (w.alloc (.cells (m.cells vk) 36)) m.nums 3
  simp only [World.size_alloc] at this
  exact this
 ·exact ((Below.refl _ _).alloc (Nat.le_refl _) _).alloc (by simp) _
def restB (m:MsgM):Bool:=
 if m.kind=0 then bareB m && (allIn 0 0 [m.ref,m.born] && (decide (m.body.size≤1024) && notsB m.body))
 else if m.kind=1 then wholeB m && allIn 0 0 [m.due,m.ref]
 else if m.kind=2∨m.kind=3 then wholeB m
 else if m.kind=4 then bareB m && m.body.toList.isEmpty
 else false
def rightB (m:MsgM):Bool:=allIn 0 1099511627776 m.nums && restB m
theorem range_two (a b n n':Int) (z:Bool) (W:World) (p q:Nat) (hp:W.cell? ⟨p,0,none⟩=some (.int .i64 a)) (hq:W.cell? ⟨q,0,none⟩=some (.int .i64 b)) (h1:p<W.heap.size) (h2:q<W.heap.size) (hz:allIn a b [n,n']=z) :
 Calls Tryz.prog 232 #[.slice (some ⟨W.heap.size,0,none⟩) 2 2,.pointer (some ⟨p,0,none⟩),.pointer (some ⟨q,0,none⟩)] (W.alloc (.cells #[.int .i64 n,.int .i64 n'] 3)) fun e w'=>e = .returned (.bool z)∧Below W.heap.size W w':=
 (range_any p q a b _ [n,n'] z _ (ints_alloc W [n,n'] 3) (by decide:(2:Nat)≤1000000)
  (by rw [(bcell ((Below.refl W.heap.size W).alloc (Nat.le_refl _) _)).1 p 0 h1];exact hp) (by rw [(bcell ((Below.refl W.heap.size W).alloc (Nat.le_refl _) _)).1 q 0 h2];exact hq) hz).mono fun e w' h=>⟨h.1,h.2▸(Below.refl W.heap.size W).alloc (Nat.le_refl _) _⟩
set_option maxHeartbeats 4000000 in
set_option maxRecDepth 100000 in
theorem right_any (m:MsgM) (vk:Value) (x:Bool) (w:World) (hk:Strs w 0 vk m.keys) (hcap:CapOk vk) (hs:Sound m) (hx:rightB m=x) :
 Calls Tryz.prog 164 #[m.val vk] w fun e w'=>e = .returned (.bool x)∧Below w.heap.size w w':=by
 obtain ⟨z,hz⟩:∃ z,allIn 0 1099511627776 m.nums=z:=⟨_,rfl⟩
 obtain ⟨zb,hzb⟩:∃ z,bareB m=z:=⟨_,rfl⟩
 obtain ⟨zw,hzw⟩:∃ z,wholeB m=z:=⟨_,rfl⟩
 obtain ⟨zn,hzn⟩:∃ z,notsB m.body=z:=⟨_,rfl⟩
 obtain ⟨z1,hz1⟩:∃ z,allIn 0 0 [m.ref,m.born]=z:=⟨_,rfl⟩
 obtain ⟨z2,hz2⟩:∃ z,allIn 0 0 [m.due,m.ref]=z:=⟨_,rfl⟩
 unfold rightB restB at hx
 rw [hz,hzb,hzw,hzn,hz1,hz2] at hx
 have HNU:=Lib.hid fun W=>numbers_any m vk W
 have HRG:=Lib.hid fun v W p q (hv:Ints W v m.nums) hp hq=>range_any p q 0 1099511627776 v m.nums z W hv (by decide:(6:Nat)≤1000000) hp hq hz
 have HBA:Hid (∀ W,Below w.heap.size w W→Calls Tryz.prog 202 #[m.val vk] W fun e w'=>e = .returned (.bool zb)∧Below W.heap.size W w'):=Lib.hid fun W hb=>bare_any m vk zb W (hk.below hb (Nat.le_refl _)) hzb
 have HWH:Hid (∀ W,Below w.heap.size w W→Calls Tryz.prog 203 #[m.val vk] W fun e w'=>e = .returned (.bool zw)∧Below W.heap.size W w'):=Lib.hid fun W hb=>whole_any m vk zw W (hk.below hb (Nat.le_refl _)) hcap hs hzw
 have HNO:=Lib.hid fun W=>areNots_any m.body zn W hs.body hzn
 have HR1:=Lib.hid fun W p q hp hq a b=>range_two 0 0 m.ref m.born z1 W p q hp hq a b hz1
 have HR2:=Lib.hid fun W p q hp hq a b=>range_two 0 0 m.due m.ref z2 W p q hp hq a b hz2
 clear hz hzb hzw hzn hz1 hz2 hs hk hcap
 unfold MsgM.val MsgM.cells at *
 obtain ⟨kind,queue,due,retry,ref,born,topic,tag,body,keys⟩:=m
 simp only at *
 cases z
 ·obtain rfl:false=x:=by simpa using hx
  go_enter Tryz.func164,Tryz.ntmps164
  go_wp2_with fail
  refine (from_any 0 1099511627776 _).mono ?_
  rintro e w1 ⟨p,q,rfl,hp0,hp1,hq0,hq1,kp,kq,hb⟩
  have hz1:=hb.size
  have hc1:=(bcell hb).1
  simp only [World.size_alloc] at hz1 hp0 hq0 hc1
  have HA1:=Lib.hid hb
  clear hb
  go_wp2_with fail
  refine (from_any 0 0 _).mono ?_
  rintro e w2 ⟨p',q',rfl,hp0',hp1',hq0',hq1',kp',kq',hb⟩
  have kp2:=((bcell hb).1 p 0 hp1).trans kp
  have kq2:=((bcell hb).1 q 0 hq1).trans kq
  have hz2:=hb.size
  have hb:=HA1.out.trans (hb.mono (by simp only [World.size_alloc];omega))
  have hc2:=(bcell hb).1
  simp only [World.size_alloc] at hc2
  have HA2:=Lib.hid hb
  clear hb kp kq HA1 hc1
  go_wp2_with fail
  refine (HNU.out _).mono ?_
  rintro e w3 ⟨v,rfl,hv,hb⟩
  have kp3:=((bcell hb).1 p 0 (by omega)).trans kp2
  have kq3:=((bcell hb).1 q 0 (by omega)).trans kq2
  have kp3':=((bcell hb).1 p' 0 hp1').trans kp'
  have kq3':=((bcell hb).1 q' 0 hq1').trans kq'
  have hz3:=hb.size
  have hb:=HA2.out.trans (hb.mono (by simp only [World.size_alloc];omega))
  have hc3:=(bcell hb).1
  simp only [World.size_alloc] at hc3
  have HA3:=Lib.hid hb
  have HV:=Lib.hid hv
  clear hb kp2 kq2 kp' kq' hv hc2
  go_wp2_with fail
  refine (HRG.out v w3 p q HV.out kp3 kq3).mono ?_
  rintro e w4 ⟨rfl,rfl⟩
  clear kp3 kq3
  go_wp2_with fail
  go_ret
  exact ⟨rfl,((Below.refl w.heap.size w).alloc (Nat.le_refl _) _).trans (HA3.out.mono (by simp))⟩
 by_cases hk0:kind=0
 ·subst hk0
  rw [if_pos rfl] at hx
  cases zb
  ·obtain rfl:false=x:=by simpa using hx
   go_enter Tryz.func164,Tryz.ntmps164
   go_wp2_with fail
   refine (from_any 0 1099511627776 _).mono ?_
   rintro e w1 ⟨p,q,rfl,hp0,hp1,hq0,hq1,kp,kq,hb⟩
   have hz1:=hb.size
   have hc1:=(bcell hb).1
   simp only [World.size_alloc] at hz1 hp0 hq0 hc1
   have HA1:=Lib.hid hb
   clear hb
   go_wp2_with fail
   refine (from_any 0 0 _).mono ?_
   rintro e w2 ⟨p',q',rfl,hp0',hp1',hq0',hq1',kp',kq',hb⟩
   have kp2:=((bcell hb).1 p 0 hp1).trans kp
   have kq2:=((bcell hb).1 q 0 hq1).trans kq
   have hz2:=hb.size
   have hb:=HA1.out.trans (hb.mono (by simp only [World.size_alloc];omega))
   have hc2:=(bcell hb).1
   simp only [World.size_alloc] at hc2
   have HA2:=Lib.hid hb
   clear hb kp kq HA1 hc1
   go_wp2_with fail
   refine (HNU.out _).mono ?_
   rintro e w3 ⟨v,rfl,hv,hb⟩
   have kp3:=((bcell hb).1 p 0 (by omega)).trans kp2
   have kq3:=((bcell hb).1 q 0 (by omega)).trans kq2
   have kp3':=((bcell hb).1 p' 0 hp1').trans kp'
   have kq3':=((bcell hb).1 q' 0 hq1').trans kq'
   have hz3:=hb.size
   have hb:=HA2.out.trans (hb.mono (by simp only [World.size_alloc];omega))
   have hc3:=(bcell hb).1
   simp only [World.size_alloc] at hc3
   have HA3:=Lib.hid hb
   have HV:=Lib.hid hv
   clear hb kp2 kq2 kp' kq' hv hc2
   go_wp2_with fail
   refine (HRG.out v w3 p q HV.out kp3 kq3).mono ?_
   rintro e w4 ⟨rfl,rfl⟩
   clear kp3 kq3
   go_wp2_with fail
   refine (HBA.out w3 (((Below.refl w.heap.size w).alloc (Nat.le_refl _) _).trans (HA3.out.mono (by simp)))).mono ?_
   rintro e w4 ⟨rfl,hb⟩
   have kp4':=((bcell hb).1 p' 0 (by omega)).trans kp3'
   have kq4':=((bcell hb).1 q' 0 (by omega)).trans kq3'
   have hz4:=hb.size
   have hb:=HA3.out.trans (hb.mono (by simp only [World.size_alloc];omega))
   have hc4:=(bcell hb).1
   simp only [World.size_alloc] at hc4
   have HA4:=Lib.hid hb
   clear hb hc3
   go_wp2_with fail
   go_ret
   exact ⟨rfl,((Below.refl w.heap.size w).alloc (Nat.le_refl _) _).trans (HA4.out.mono (by simp))⟩
  cases z1
  ·obtain rfl:false=x:=by simpa using hx
   go_enter Tryz.func164,Tryz.ntmps164
   go_wp2_with fail
   refine (from_any 0 1099511627776 _).mono ?_
   rintro e w1 ⟨p,q,rfl,hp0,hp1,hq0,hq1,kp,kq,hb⟩
   have hz1:=hb.size
   have hc1:=(bcell hb).1
   simp only [World.size_alloc] at hz1 hp0 hq0 hc1
   have HA1:=Lib.hid hb
   clear hb
   go_wp2_with fail
   refine (from_any 0 0 _).mono ?_
   rintro e w2 ⟨p',q',rfl,hp0',hp1',hq0',hq1',kp',kq',hb⟩
   have kp2:=((bcell hb).1 p 0 hp1).trans kp
   have kq2:=((bcell hb).1 q 0 hq1).trans kq
   have hz2:=hb.size
   have hb:=HA1.out.trans (hb.mono (by simp only [World.size_alloc];omega))
   have hc2:=(bcell hb).1
   simp only [World.size_alloc] at hc2
   have HA2:=Lib.hid hb
   clear hb kp kq HA1 hc1
   go_wp2_with fail
   refine (HNU.out _).mono ?_
   rintro e w3 ⟨v,rfl,hv,hb⟩
   have kp3:=((bcell hb).1 p 0 (by omega)).trans kp2
   have kq3:=((bcell hb).1 q 0 (by omega)).trans kq2
   have kp3':=((bcell hb).1 p' 0 hp1').trans kp'
   have kq3':=((bcell hb).1 q' 0 hq1').trans kq'
   have hz3:=hb.size
   have hb:=HA2.out.trans (hb.mono (by simp only [World.size_alloc];omega))
   have hc3:=(bcell hb).1
   simp only [World.size_alloc] at hc3
   have HA3:=Lib.hid hb
   have HV:=Lib.hid hv
   clear hb kp2 kq2 kp' kq' hv hc2
   go_wp2_with fail
   refine (HRG.out v w3 p q HV.out kp3 kq3).mono ?_
   rintro e w4 ⟨rfl,rfl⟩
   clear kp3 kq3
   go_wp2_with fail
   refine (HBA.out w3 (((Below.refl w.heap.size w).alloc (Nat.le_refl _) _).trans (HA3.out.mono (by simp)))).mono ?_
   rintro e w4 ⟨rfl,hb⟩
   have kp4':=((bcell hb).1 p' 0 (by omega)).trans kp3'
   have kq4':=((bcell hb).1 q' 0 (by omega)).trans kq3'
   have hz4:=hb.size
   have hb:=HA3.out.trans (hb.mono (by simp only [World.size_alloc];omega))
   have hc4:=(bcell hb).1
   simp only [World.size_alloc] at hc4
   have HA4:=Lib.hid hb
   clear hb hc3
   go_wp2_with fail
   refine (HR1.out w4 p' q' kp4' kq4' (by omega) (by omega)).mono ?_
   rintro e w5 ⟨rfl,hb⟩
   have hz5:=hb.size
   have hb:=HA4.out.trans (hb.mono (by simp only [World.size_alloc];omega))
   have hc5:=(bcell hb).1
   simp only [World.size_alloc] at hc5
   have HA5:=Lib.hid hb
   clear hb hc4
   go_wp2_with fail
   go_ret
   exact ⟨rfl,((Below.refl w.heap.size w).alloc (Nat.le_refl _) _).trans (HA5.out.mono (by simp))⟩
  by_cases hb1:body.size≤1024
  ·rw [decide_eq_true hb1] at hx
   obtain rfl:zn=x:=by simpa using hx
   have hb2:(body.size:Int)≤1024:=by omega
   cases zn
   ·go_enter Tryz.func164,Tryz.ntmps164
    go_wp2_with fail
    refine (from_any 0 1099511627776 _).mono ?_
    rintro e w1 ⟨p,q,rfl,hp0,hp1,hq0,hq1,kp,kq,hb⟩
    have hz1:=hb.size
    have hc1:=(bcell hb).1
    simp only [World.size_alloc] at hz1 hp0 hq0 hc1
    have HA1:=Lib.hid hb
    clear hb
    go_wp2_with fail
    refine (from_any 0 0 _).mono ?_
    rintro e w2 ⟨p',q',rfl,hp0',hp1',hq0',hq1',kp',kq',hb⟩
    have kp2:=((bcell hb).1 p 0 hp1).trans kp
    have kq2:=((bcell hb).1 q 0 hq1).trans kq
    have hz2:=hb.size
    have hb:=HA1.out.trans (hb.mono (by simp only [World.size_alloc];omega))
    have hc2:=(bcell hb).1
    simp only [World.size_alloc] at hc2
    have HA2:=Lib.hid hb
    clear hb kp kq HA1 hc1
    go_wp2_with fail
    refine (HNU.out _).mono ?_
    rintro e w3 ⟨v,rfl,hv,hb⟩
    have kp3:=((bcell hb).1 p 0 (by omega)).trans kp2
    have kq3:=((bcell hb).1 q 0 (by omega)).trans kq2
    have kp3':=((bcell hb).1 p' 0 hp1').trans kp'
    have kq3':=((bcell hb).1 q' 0 hq1').trans kq'
    have hz3:=hb.size
    have hb:=HA2.out.trans (hb.mono (by simp only [World.size_alloc];omega))
    have hc3:=(bcell hb).1
    simp only [World.size_alloc] at hc3
    have HA3:=Lib.hid hb
    have HV:=Lib.hid hv
    clear hb kp2 kq2 kp' kq' hv hc2
    go_wp2_with fail
    refine (HRG.out v w3 p q HV.out kp3 kq3).mono ?_
    rintro e w4 ⟨rfl,rfl⟩
    clear kp3 kq3
    go_wp2_with fail
    refine (HBA.out w3 (((Below.refl w.heap.size w).alloc (Nat.le_refl _) _).trans (HA3.out.mono (by simp)))).mono ?_
    rintro e w4 ⟨rfl,hb⟩
    have kp4':=((bcell hb).1 p' 0 (by omega)).trans kp3'
    have kq4':=((bcell hb).1 q' 0 (by omega)).trans kq3'
    have hz4:=hb.size
    have hb:=HA3.out.trans (hb.mono (by simp only [World.size_alloc];omega))
    have hc4:=(bcell hb).1
    simp only [World.size_alloc] at hc4
    have HA4:=Lib.hid hb
    clear hb hc3
    go_wp2_with fail
    refine (HR1.out w4 p' q' kp4' kq4' (by omega) (by omega)).mono ?_
    rintro e w5 ⟨rfl,hb⟩
    have hz5:=hb.size
    have hb:=HA4.out.trans (hb.mono (by simp only [World.size_alloc];omega))
    have hc5:=(bcell hb).1
    simp only [World.size_alloc] at hc5
    have HA5:=Lib.hid hb
    clear hb hc4
    go_wp2_with fail
    refine (HNO.out _).mono ?_
    rintro e w6 ⟨rfl,hb⟩
    have hz6:=hb.size
    have hb:=HA5.out.trans (hb.mono (by simp only [World.size_alloc];omega))
    have hc6:=(bcell hb).1
    simp only [World.size_alloc] at hc6
    have HA6:=Lib.hid hb
    clear hb hc5
    go_wp2_with fail
    go_ret
    exact ⟨rfl,((Below.refl w.heap.size w).alloc (Nat.le_refl _) _).trans (HA6.out.mono (by simp))⟩
   ·go_enter Tryz.func164,Tryz.ntmps164
    go_wp2_with fail
    refine (from_any 0 1099511627776 _).mono ?_
    rintro e w1 ⟨p,q,rfl,hp0,hp1,hq0,hq1,kp,kq,hb⟩
    have hz1:=hb.size
    have hc1:=(bcell hb).1
    simp only [World.size_alloc] at hz1 hp0 hq0 hc1
    have HA1:=Lib.hid hb
    clear hb
    go_wp2_with fail
    refine (from_any 0 0 _).mono ?_
    rintro e w2 ⟨p',q',rfl,hp0',hp1',hq0',hq1',kp',kq',hb⟩
    have kp2:=((bcell hb).1 p 0 hp1).trans kp
    have kq2:=((bcell hb).1 q 0 hq1).trans kq
    have hz2:=hb.size
    have hb:=HA1.out.trans (hb.mono (by simp only [World.size_alloc];omega))
    have hc2:=(bcell hb).1
    simp only [World.size_alloc] at hc2
    have HA2:=Lib.hid hb
    clear hb kp kq HA1 hc1
    go_wp2_with fail
    refine (HNU.out _).mono ?_
    rintro e w3 ⟨v,rfl,hv,hb⟩
    have kp3:=((bcell hb).1 p 0 (by omega)).trans kp2
    have kq3:=((bcell hb).1 q 0 (by omega)).trans kq2
    have kp3':=((bcell hb).1 p' 0 hp1').trans kp'
    have kq3':=((bcell hb).1 q' 0 hq1').trans kq'
    have hz3:=hb.size
    have hb:=HA2.out.trans (hb.mono (by simp only [World.size_alloc];omega))
    have hc3:=(bcell hb).1
    simp only [World.size_alloc] at hc3
    have HA3:=Lib.hid hb
    have HV:=Lib.hid hv
    clear hb kp2 kq2 kp' kq' hv hc2
    go_wp2_with fail
    refine (HRG.out v w3 p q HV.out kp3 kq3).mono ?_
    rintro e w4 ⟨rfl,rfl⟩
    clear kp3 kq3
    go_wp2_with fail
    refine (HBA.out w3 (((Below.refl w.heap.size w).alloc (Nat.le_refl _) _).trans (HA3.out.mono (by simp)))).mono ?_
    rintro e w4 ⟨rfl,hb⟩
    have kp4':=((bcell hb).1 p' 0 (by omega)).trans kp3'
    have kq4':=((bcell hb).1 q' 0 (by omega)).trans kq3'
    have hz4:=hb.size
    have hb:=HA3.out.trans (hb.mono (by simp only [World.size_alloc];omega))
    have hc4:=(bcell hb).1
    simp only [World.size_alloc] at hc4
    have HA4:=Lib.hid hb
    clear hb hc3
    go_wp2_with fail
    refine (HR1.out w4 p' q' kp4' kq4' (by omega) (by omega)).mono ?_
    rintro e w5 ⟨rfl,hb⟩
    have hz5:=hb.size
    have hb:=HA4.out.trans (hb.mono (by simp only [World.size_alloc];omega))
    have hc5:=(bcell hb).1
    simp only [World.size_alloc] at hc5
    have HA5:=Lib.hid hb
    clear hb hc4
    go_wp2_with fail
    refine (HNO.out _).mono ?_
    rintro e w6 ⟨rfl,hb⟩
    have hz6:=hb.size
    have hb:=HA5.out.trans (hb.mono (by simp only [World.size_alloc];omega))
    have hc6:=(bcell hb).1
    simp only [World.size_alloc] at hc6
    have HA6:=Lib.hid hb
    clear hb hc5
    go_wp2_with fail
    go_ret
    exact ⟨rfl,((Below.refl w.heap.size w).alloc (Nat.le_refl _) _).trans (HA6.out.mono (by simp))⟩
  ·rw [decide_eq_false hb1] at hx
   obtain rfl:false=x:=by simpa using hx
   have hb2:decide ((body.size:Int)≤1024)=false:=decide_eq_false (by omega)
   go_enter Tryz.func164,Tryz.ntmps164
   go_wp2_with fail
   refine (from_any 0 1099511627776 _).mono ?_
   rintro e w1 ⟨p,q,rfl,hp0,hp1,hq0,hq1,kp,kq,hb⟩
   have hz1:=hb.size
   have hc1:=(bcell hb).1
   simp only [World.size_alloc] at hz1 hp0 hq0 hc1
   have HA1:=Lib.hid hb
   clear hb
   go_wp2_with fail
   refine (from_any 0 0 _).mono ?_
   rintro e w2 ⟨p',q',rfl,hp0',hp1',hq0',hq1',kp',kq',hb⟩
   have kp2:=((bcell hb).1 p 0 hp1).trans kp
   have kq2:=((bcell hb).1 q 0 hq1).trans kq
   have hz2:=hb.size
   have hb:=HA1.out.trans (hb.mono (by simp only [World.size_alloc];omega))
   have hc2:=(bcell hb).1
   simp only [World.size_alloc] at hc2
   have HA2:=Lib.hid hb
   clear hb kp kq HA1 hc1
   go_wp2_with fail
   refine (HNU.out _).mono ?_
   rintro e w3 ⟨v,rfl,hv,hb⟩
   have kp3:=((bcell hb).1 p 0 (by omega)).trans kp2
   have kq3:=((bcell hb).1 q 0 (by omega)).trans kq2
   have kp3':=((bcell hb).1 p' 0 hp1').trans kp'
   have kq3':=((bcell hb).1 q' 0 hq1').trans kq'
   have hz3:=hb.size
   have hb:=HA2.out.trans (hb.mono (by simp only [World.size_alloc];omega))
   have hc3:=(bcell hb).1
   simp only [World.size_alloc] at hc3
   have HA3:=Lib.hid hb
   have HV:=Lib.hid hv
   clear hb kp2 kq2 kp' kq' hv hc2
   go_wp2_with fail
   refine (HRG.out v w3 p q HV.out kp3 kq3).mono ?_
   rintro e w4 ⟨rfl,rfl⟩
   clear kp3 kq3
   go_wp2_with fail
   refine (HBA.out w3 (((Below.refl w.heap.size w).alloc (Nat.le_refl _) _).trans (HA3.out.mono (by simp)))).mono ?_
   rintro e w4 ⟨rfl,hb⟩
   have kp4':=((bcell hb).1 p' 0 (by omega)).trans kp3'
   have kq4':=((bcell hb).1 q' 0 (by omega)).trans kq3'
   have hz4:=hb.size
   have hb:=HA3.out.trans (hb.mono (by simp only [World.size_alloc];omega))
   have hc4:=(bcell hb).1
   simp only [World.size_alloc] at hc4
   have HA4:=Lib.hid hb
   clear hb hc3
   go_wp2_with fail
   refine (HR1.out w4 p' q' kp4' kq4' (by omega) (by omega)).mono ?_
   rintro e w5 ⟨rfl,hb⟩
   have hz5:=hb.size
   have hb:=HA4.out.trans (hb.mono (by simp only [World.size_alloc];omega))
   have hc5:=(bcell hb).1
   simp only [World.size_alloc] at hc5
   have HA5:=Lib.hid hb
   clear hb hc4
   go_wp2_with fail
   go_ret
   exact ⟨rfl,((Below.refl w.heap.size w).alloc (Nat.le_refl _) _).trans (HA5.out.mono (by simp))⟩
 rw [if_neg hk0] at hx
 have k0:(kind == 0)=false:=by simpa using hk0
 by_cases hk1:kind=1
 ·subst hk1
  rw [if_pos rfl] at hx
  clear k0 hk0
  cases zw
  ·obtain rfl:false=x:=by simpa using hx
   go_enter Tryz.func164,Tryz.ntmps164
   go_wp2_with fail
   refine (from_any 0 1099511627776 _).mono ?_
   rintro e w1 ⟨p,q,rfl,hp0,hp1,hq0,hq1,kp,kq,hb⟩
   have hz1:=hb.size
   have hc1:=(bcell hb).1
   simp only [World.size_alloc] at hz1 hp0 hq0 hc1
   have HA1:=Lib.hid hb
   clear hb
   go_wp2_with fail
   refine (from_any 0 0 _).mono ?_
   rintro e w2 ⟨p',q',rfl,hp0',hp1',hq0',hq1',kp',kq',hb⟩
   have kp2:=((bcell hb).1 p 0 hp1).trans kp
   have kq2:=((bcell hb).1 q 0 hq1).trans kq
   have hz2:=hb.size
   have hb:=HA1.out.trans (hb.mono (by simp only [World.size_alloc];omega))
   have hc2:=(bcell hb).1
   simp only [World.size_alloc] at hc2
   have HA2:=Lib.hid hb
   clear hb kp kq HA1 hc1
   go_wp2_with fail
   refine (HNU.out _).mono ?_
   rintro e w3 ⟨v,rfl,hv,hb⟩
   have kp3:=((bcell hb).1 p 0 (by omega)).trans kp2
   have kq3:=((bcell hb).1 q 0 (by omega)).trans kq2
   have kp3':=((bcell hb).1 p' 0 hp1').trans kp'
   have kq3':=((bcell hb).1 q' 0 hq1').trans kq'
   have hz3:=hb.size
   have hb:=HA2.out.trans (hb.mono (by simp only [World.size_alloc];omega))
   have hc3:=(bcell hb).1
   simp only [World.size_alloc] at hc3
   have HA3:=Lib.hid hb
   have HV:=Lib.hid hv
   clear hb kp2 kq2 kp' kq' hv hc2
   go_wp2_with fail
   refine (HRG.out v w3 p q HV.out kp3 kq3).mono ?_
   rintro e w4 ⟨rfl,rfl⟩
   clear kp3 kq3
   go_wp2_with fail
   refine (HWH.out w3 (((Below.refl w.heap.size w).alloc (Nat.le_refl _) _).trans (HA3.out.mono (by simp)))).mono ?_
   rintro e w4 ⟨rfl,hb⟩
   have kp4':=((bcell hb).1 p' 0 (by omega)).trans kp3'
   have kq4':=((bcell hb).1 q' 0 (by omega)).trans kq3'
   have hz4:=hb.size
   have hb:=HA3.out.trans (hb.mono (by simp only [World.size_alloc];omega))
   have hc4:=(bcell hb).1
   simp only [World.size_alloc] at hc4
   have HA4:=Lib.hid hb
   clear hb hc3
   go_wp2_with fail
   go_ret
   exact ⟨rfl,((Below.refl w.heap.size w).alloc (Nat.le_refl _) _).trans (HA4.out.mono (by simp))⟩
  obtain rfl:z2=x:=by simpa using hx
  cases z2
  ·go_enter Tryz.func164,Tryz.ntmps164
   go_wp2_with fail
   refine (from_any 0 1099511627776 _).mono ?_
   rintro e w1 ⟨p,q,rfl,hp0,hp1,hq0,hq1,kp,kq,hb⟩
   have hz1:=hb.size
   have hc1:=(bcell hb).1
   simp only [World.size_alloc] at hz1 hp0 hq0 hc1
   have HA1:=Lib.hid hb
   clear hb
   go_wp2_with fail
   refine (from_any 0 0 _).mono ?_
   rintro e w2 ⟨p',q',rfl,hp0',hp1',hq0',hq1',kp',kq',hb⟩
   have kp2:=((bcell hb).1 p 0 hp1).trans kp
   have kq2:=((bcell hb).1 q 0 hq1).trans kq
   have hz2:=hb.size
   have hb:=HA1.out.trans (hb.mono (by simp only [World.size_alloc];omega))
   have hc2:=(bcell hb).1
   simp only [World.size_alloc] at hc2
   have HA2:=Lib.hid hb
   clear hb kp kq HA1 hc1
   go_wp2_with fail
   refine (HNU.out _).mono ?_
   rintro e w3 ⟨v,rfl,hv,hb⟩
   have kp3:=((bcell hb).1 p 0 (by omega)).trans kp2
   have kq3:=((bcell hb).1 q 0 (by omega)).trans kq2
   have kp3':=((bcell hb).1 p' 0 hp1').trans kp'
   have kq3':=((bcell hb).1 q' 0 hq1').trans kq'
   have hz3:=hb.size
   have hb:=HA2.out.trans (hb.mono (by simp only [World.size_alloc];omega))
   have hc3:=(bcell hb).1
   simp only [World.size_alloc] at hc3
   have HA3:=Lib.hid hb
   have HV:=Lib.hid hv
   clear hb kp2 kq2 kp' kq' hv hc2
   go_wp2_with fail
   refine (HRG.out v w3 p q HV.out kp3 kq3).mono ?_
   rintro e w4 ⟨rfl,rfl⟩
   clear kp3 kq3
   go_wp2_with fail
   refine (HWH.out w3 (((Below.refl w.heap.size w).alloc (Nat.le_refl _) _).trans (HA3.out.mono (by simp)))).mono ?_
   rintro e w4 ⟨rfl,hb⟩
   have kp4':=((bcell hb).1 p' 0 (by omega)).trans kp3'
   have kq4':=((bcell hb).1 q' 0 (by omega)).trans kq3'
   have hz4:=hb.size
   have hb:=HA3.out.trans (hb.mono (by simp only [World.size_alloc];omega))
   have hc4:=(bcell hb).1
   simp only [World.size_alloc] at hc4
   have HA4:=Lib.hid hb
   clear hb hc3
   go_wp2_with fail
   refine (HR2.out w4 p' q' kp4' kq4' (by omega) (by omega)).mono ?_
   rintro e w5 ⟨rfl,hb⟩
   have hz5:=hb.size
   have hb:=HA4.out.trans (hb.mono (by simp only [World.size_alloc];omega))
   have hc5:=(bcell hb).1
   simp only [World.size_alloc] at hc5
   have HA5:=Lib.hid hb
   clear hb hc4
   go_wp2_with fail
   go_ret
   exact ⟨rfl,((Below.refl w.heap.size w).alloc (Nat.le_refl _) _).trans (HA5.out.mono (by simp))⟩
  ·go_enter Tryz.func164,Tryz.ntmps164
   go_wp2_with fail
   refine (from_any 0 1099511627776 _).mono ?_
   rintro e w1 ⟨p,q,rfl,hp0,hp1,hq0,hq1,kp,kq,hb⟩
   have hz1:=hb.size
   have hc1:=(bcell hb).1
   simp only [World.size_alloc] at hz1 hp0 hq0 hc1
   have HA1:=Lib.hid hb
   clear hb
   go_wp2_with fail
   refine (from_any 0 0 _).mono ?_
   rintro e w2 ⟨p',q',rfl,hp0',hp1',hq0',hq1',kp',kq',hb⟩
   have kp2:=((bcell hb).1 p 0 hp1).trans kp
   have kq2:=((bcell hb).1 q 0 hq1).trans kq
   have hz2:=hb.size
   have hb:=HA1.out.trans (hb.mono (by simp only [World.size_alloc];omega))
   have hc2:=(bcell hb).1
   simp only [World.size_alloc] at hc2
   have HA2:=Lib.hid hb
   clear hb kp kq HA1 hc1
   go_wp2_with fail
   refine (HNU.out _).mono ?_
   rintro e w3 ⟨v,rfl,hv,hb⟩
   have kp3:=((bcell hb).1 p 0 (by omega)).trans kp2
   have kq3:=((bcell hb).1 q 0 (by omega)).trans kq2
   have kp3':=((bcell hb).1 p' 0 hp1').trans kp'
   have kq3':=((bcell hb).1 q' 0 hq1').trans kq'
   have hz3:=hb.size
   have hb:=HA2.out.trans (hb.mono (by simp only [World.size_alloc];omega))
   have hc3:=(bcell hb).1
   simp only [World.size_alloc] at hc3
   have HA3:=Lib.hid hb
   have HV:=Lib.hid hv
   clear hb kp2 kq2 kp' kq' hv hc2
   go_wp2_with fail
   refine (HRG.out v w3 p q HV.out kp3 kq3).mono ?_
   rintro e w4 ⟨rfl,rfl⟩
   clear kp3 kq3
   go_wp2_with fail
   refine (HWH.out w3 (((Below.refl w.heap.size w).alloc (Nat.le_refl _) _).trans (HA3.out.mono (by simp)))).mono ?_
   rintro e w4 ⟨rfl,hb⟩
   have kp4':=((bcell hb).1 p' 0 (by omega)).trans kp3'
   have kq4':=((bcell hb).1 q' 0 (by omega)).trans kq3'
   have hz4:=hb.size
   have hb:=HA3.out.trans (hb.mono (by simp only [World.size_alloc];omega))
   have hc4:=(bcell hb).1
   simp only [World.size_alloc] at hc4
   have HA4:=Lib.hid hb
   clear hb hc3
   go_wp2_with fail
   refine (HR2.out w4 p' q' kp4' kq4' (by omega) (by omega)).mono ?_
   rintro e w5 ⟨rfl,hb⟩
   have hz5:=hb.size
   have hb:=HA4.out.trans (hb.mono (by simp only [World.size_alloc];omega))
   have hc5:=(bcell hb).1
   simp only [World.size_alloc] at hc5
   have HA5:=Lib.hid hb
   clear hb hc4
   go_wp2_with fail
   go_ret
   exact ⟨rfl,((Below.refl w.heap.size w).alloc (Nat.le_refl _) _).trans (HA5.out.mono (by simp))⟩
 rw [if_neg hk1] at hx
 have k1:(kind == 1)=false:=by simpa using hk1
 by_cases hk2:kind=2
 ·subst hk2
  rw [if_pos (.inl rfl)] at hx
  clear k0 k1 hk0 hk1
  obtain rfl:zw=x:=by simpa using hx
  go_enter Tryz.func164,Tryz.ntmps164
  go_wp2_with fail
  refine (from_any 0 1099511627776 _).mono ?_
  rintro e w1 ⟨p,q,rfl,hp0,hp1,hq0,hq1,kp,kq,hb⟩
  have hz1:=hb.size
  have hc1:=(bcell hb).1
  simp only [World.size_alloc] at hz1 hp0 hq0 hc1
  have HA1:=Lib.hid hb
  clear hb
  go_wp2_with fail
  refine (from_any 0 0 _).mono ?_
  rintro e w2 ⟨p',q',rfl,hp0',hp1',hq0',hq1',kp',kq',hb⟩
  have kp2:=((bcell hb).1 p 0 hp1).trans kp
  have kq2:=((bcell hb).1 q 0 hq1).trans kq
  have hz2:=hb.size
  have hb:=HA1.out.trans (hb.mono (by simp only [World.size_alloc];omega))
  have hc2:=(bcell hb).1
  simp only [World.size_alloc] at hc2
  have HA2:=Lib.hid hb
  clear hb kp kq HA1 hc1
  go_wp2_with fail
  refine (HNU.out _).mono ?_
  rintro e w3 ⟨v,rfl,hv,hb⟩
  have kp3:=((bcell hb).1 p 0 (by omega)).trans kp2
  have kq3:=((bcell hb).1 q 0 (by omega)).trans kq2
  have kp3':=((bcell hb).1 p' 0 hp1').trans kp'
  have kq3':=((bcell hb).1 q' 0 hq1').trans kq'
  have hz3:=hb.size
  have hb:=HA2.out.trans (hb.mono (by simp only [World.size_alloc];omega))
  have hc3:=(bcell hb).1
  simp only [World.size_alloc] at hc3
  have HA3:=Lib.hid hb
  have HV:=Lib.hid hv
  clear hb kp2 kq2 kp' kq' hv hc2
  go_wp2_with fail
  refine (HRG.out v w3 p q HV.out kp3 kq3).mono ?_
  rintro e w4 ⟨rfl,rfl⟩
  clear kp3 kq3
  go_wp2_with fail
  refine (HWH.out w3 (((Below.refl w.heap.size w).alloc (Nat.le_refl _) _).trans (HA3.out.mono (by simp)))).mono ?_
  rintro e w4 ⟨rfl,hb⟩
  have kp4':=((bcell hb).1 p' 0 (by omega)).trans kp3'
  have kq4':=((bcell hb).1 q' 0 (by omega)).trans kq3'
  have hz4:=hb.size
  have hb:=HA3.out.trans (hb.mono (by simp only [World.size_alloc];omega))
  have hc4:=(bcell hb).1
  simp only [World.size_alloc] at hc4
  have HA4:=Lib.hid hb
  clear hb hc3
  go_wp2_with fail
  go_ret
  exact ⟨rfl,((Below.refl w.heap.size w).alloc (Nat.le_refl _) _).trans (HA4.out.mono (by simp))⟩
 have k2:(kind == 2)=false:=by simpa using hk2
 by_cases hk3:kind=3
 ·subst hk3
  rw [if_pos (.inr rfl)] at hx
  clear k0 k1 k2 hk0 hk1 hk2
  obtain rfl:zw=x:=by simpa using hx
  go_enter Tryz.func164,Tryz.ntmps164
  go_wp2_with fail
  refine (from_any 0 1099511627776 _).mono ?_
  rintro e w1 ⟨p,q,rfl,hp0,hp1,hq0,hq1,kp,kq,hb⟩
  have hz1:=hb.size
  have hc1:=(bcell hb).1
  simp only [World.size_alloc] at hz1 hp0 hq0 hc1
  have HA1:=Lib.hid hb
  clear hb
  go_wp2_with fail
  refine (from_any 0 0 _).mono ?_
  rintro e w2 ⟨p',q',rfl,hp0',hp1',hq0',hq1',kp',kq',hb⟩
  have kp2:=((bcell hb).1 p 0 hp1).trans kp
  have kq2:=((bcell hb).1 q 0 hq1).trans kq
  have hz2:=hb.size
  have hb:=HA1.out.trans (hb.mono (by simp only [World.size_alloc];omega))
  have hc2:=(bcell hb).1
  simp only [World.size_alloc] at hc2
  have HA2:=Lib.hid hb
  clear hb kp kq HA1 hc1
  go_wp2_with fail
  refine (HNU.out _).mono ?_
  rintro e w3 ⟨v,rfl,hv,hb⟩
  have kp3:=((bcell hb).1 p 0 (by omega)).trans kp2
  have kq3:=((bcell hb).1 q 0 (by omega)).trans kq2
  have kp3':=((bcell hb).1 p' 0 hp1').trans kp'
  have kq3':=((bcell hb).1 q' 0 hq1').trans kq'
  have hz3:=hb.size
  have hb:=HA2.out.trans (hb.mono (by simp only [World.size_alloc];omega))
  have hc3:=(bcell hb).1
  simp only [World.size_alloc] at hc3
  have HA3:=Lib.hid hb
  have HV:=Lib.hid hv
  clear hb kp2 kq2 kp' kq' hv hc2
  go_wp2_with fail
  refine (HRG.out v w3 p q HV.out kp3 kq3).mono ?_
  rintro e w4 ⟨rfl,rfl⟩
  clear kp3 kq3
  go_wp2_with fail
  refine (HWH.out w3 (((Below.refl w.heap.size w).alloc (Nat.le_refl _) _).trans (HA3.out.mono (by simp)))).mono ?_
  rintro e w4 ⟨rfl,hb⟩
  have kp4':=((bcell hb).1 p' 0 (by omega)).trans kp3'
  have kq4':=((bcell hb).1 q' 0 (by omega)).trans kq3'
  have hz4:=hb.size
  have hb:=HA3.out.trans (hb.mono (by simp only [World.size_alloc];omega))
  have hc4:=(bcell hb).1
  simp only [World.size_alloc] at hc4
  have HA4:=Lib.hid hb
  clear hb hc3
  go_wp2_with fail
  go_ret
  exact ⟨rfl,((Below.refl w.heap.size w).alloc (Nat.le_refl _) _).trans (HA4.out.mono (by simp))⟩
 rw [if_neg (fun h=>h.elim hk2 hk3)] at hx
 have k3:(kind == 3)=false:=by simpa using hk3
 by_cases hk4:kind=4
 ·subst hk4
  rw [if_pos rfl] at hx
  clear k0 k1 k2 k3 hk0 hk1 hk2 hk3
  cases zb
  ·obtain rfl:false=x:=by simpa using hx
   go_enter Tryz.func164,Tryz.ntmps164
   go_wp2_with fail
   refine (from_any 0 1099511627776 _).mono ?_
   rintro e w1 ⟨p,q,rfl,hp0,hp1,hq0,hq1,kp,kq,hb⟩
   have hz1:=hb.size
   have hc1:=(bcell hb).1
   simp only [World.size_alloc] at hz1 hp0 hq0 hc1
   have HA1:=Lib.hid hb
   clear hb
   go_wp2_with fail
   refine (from_any 0 0 _).mono ?_
   rintro e w2 ⟨p',q',rfl,hp0',hp1',hq0',hq1',kp',kq',hb⟩
   have kp2:=((bcell hb).1 p 0 hp1).trans kp
   have kq2:=((bcell hb).1 q 0 hq1).trans kq
   have hz2:=hb.size
   have hb:=HA1.out.trans (hb.mono (by simp only [World.size_alloc];omega))
   have hc2:=(bcell hb).1
   simp only [World.size_alloc] at hc2
   have HA2:=Lib.hid hb
   clear hb kp kq HA1 hc1
   go_wp2_with fail
   refine (HNU.out _).mono ?_
   rintro e w3 ⟨v,rfl,hv,hb⟩
   have kp3:=((bcell hb).1 p 0 (by omega)).trans kp2
   have kq3:=((bcell hb).1 q 0 (by omega)).trans kq2
   have kp3':=((bcell hb).1 p' 0 hp1').trans kp'
   have kq3':=((bcell hb).1 q' 0 hq1').trans kq'
   have hz3:=hb.size
   have hb:=HA2.out.trans (hb.mono (by simp only [World.size_alloc];omega))
   have hc3:=(bcell hb).1
   simp only [World.size_alloc] at hc3
   have HA3:=Lib.hid hb
   have HV:=Lib.hid hv
   clear hb kp2 kq2 kp' kq' hv hc2
   go_wp2_with fail
   refine (HRG.out v w3 p q HV.out kp3 kq3).mono ?_
   rintro e w4 ⟨rfl,rfl⟩
   clear kp3 kq3
   go_wp2_with fail
   refine (HBA.out w3 (((Below.refl w.heap.size w).alloc (Nat.le_refl _) _).trans (HA3.out.mono (by simp)))).mono ?_
   rintro e w4 ⟨rfl,hb⟩
   have kp4':=((bcell hb).1 p' 0 (by omega)).trans kp3'
   have kq4':=((bcell hb).1 q' 0 (by omega)).trans kq3'
   have hz4:=hb.size
   have hb:=HA3.out.trans (hb.mono (by simp only [World.size_alloc];omega))
   have hc4:=(bcell hb).1
   simp only [World.size_alloc] at hc4
   have HA4:=Lib.hid hb
   clear hb hc3
   go_wp2_with fail
   go_ret
   exact ⟨rfl,((Below.refl w.heap.size w).alloc (Nat.le_refl _) _).trans (HA4.out.mono (by simp))⟩
  cases hbe:body.toList.isEmpty
  ·rw [hbe] at hx
   obtain rfl:false=x:=by simpa using hx
   go_enter Tryz.func164,Tryz.ntmps164
   go_wp2_with fail
   refine (from_any 0 1099511627776 _).mono ?_
   rintro e w1 ⟨p,q,rfl,hp0,hp1,hq0,hq1,kp,kq,hb⟩
   have hz1:=hb.size
   have hc1:=(bcell hb).1
   simp only [World.size_alloc] at hz1 hp0 hq0 hc1
   have HA1:=Lib.hid hb
   clear hb
   go_wp2_with fail
   refine (from_any 0 0 _).mono ?_
   rintro e w2 ⟨p',q',rfl,hp0',hp1',hq0',hq1',kp',kq',hb⟩
   have kp2:=((bcell hb).1 p 0 hp1).trans kp
   have kq2:=((bcell hb).1 q 0 hq1).trans kq
   have hz2:=hb.size
   have hb:=HA1.out.trans (hb.mono (by simp only [World.size_alloc];omega))
   have hc2:=(bcell hb).1
   simp only [World.size_alloc] at hc2
   have HA2:=Lib.hid hb
   clear hb kp kq HA1 hc1
   go_wp2_with fail
   refine (HNU.out _).mono ?_
   rintro e w3 ⟨v,rfl,hv,hb⟩
   have kp3:=((bcell hb).1 p 0 (by omega)).trans kp2
   have kq3:=((bcell hb).1 q 0 (by omega)).trans kq2
   have kp3':=((bcell hb).1 p' 0 hp1').trans kp'
   have kq3':=((bcell hb).1 q' 0 hq1').trans kq'
   have hz3:=hb.size
   have hb:=HA2.out.trans (hb.mono (by simp only [World.size_alloc];omega))
   have hc3:=(bcell hb).1
   simp only [World.size_alloc] at hc3
   have HA3:=Lib.hid hb
   have HV:=Lib.hid hv
   clear hb kp2 kq2 kp' kq' hv hc2
   go_wp2_with fail
   refine (HRG.out v w3 p q HV.out kp3 kq3).mono ?_
   rintro e w4 ⟨rfl,rfl⟩
   clear kp3 kq3
   go_wp2_with fail
   refine (HBA.out w3 (((Below.refl w.heap.size w).alloc (Nat.le_refl _) _).trans (HA3.out.mono (by simp)))).mono ?_
   rintro e w4 ⟨rfl,hb⟩
   have kp4':=((bcell hb).1 p' 0 (by omega)).trans kp3'
   have kq4':=((bcell hb).1 q' 0 (by omega)).trans kq3'
   have hz4:=hb.size
   have hb:=HA3.out.trans (hb.mono (by simp only [World.size_alloc];omega))
   have hc4:=(bcell hb).1
   simp only [World.size_alloc] at hc4
   have HA4:=Lib.hid hb
   clear hb hc3
   go_wp2_with fail
   go_ret
   exact ⟨rfl,((Below.refl w.heap.size w).alloc (Nat.le_refl _) _).trans (HA4.out.mono (by simp))⟩
  ·rw [hbe] at hx
   obtain rfl:true=x:=by simpa using hx
   go_enter Tryz.func164,Tryz.ntmps164
   go_wp2_with fail
   refine (from_any 0 1099511627776 _).mono ?_
   rintro e w1 ⟨p,q,rfl,hp0,hp1,hq0,hq1,kp,kq,hb⟩
   have hz1:=hb.size
   have hc1:=(bcell hb).1
   simp only [World.size_alloc] at hz1 hp0 hq0 hc1
   have HA1:=Lib.hid hb
   clear hb
   go_wp2_with fail
   refine (from_any 0 0 _).mono ?_
   rintro e w2 ⟨p',q',rfl,hp0',hp1',hq0',hq1',kp',kq',hb⟩
   have kp2:=((bcell hb).1 p 0 hp1).trans kp
   have kq2:=((bcell hb).1 q 0 hq1).trans kq
   have hz2:=hb.size
   have hb:=HA1.out.trans (hb.mono (by simp only [World.size_alloc];omega))
   have hc2:=(bcell hb).1
   simp only [World.size_alloc] at hc2
   have HA2:=Lib.hid hb
   clear hb kp kq HA1 hc1
   go_wp2_with fail
   refine (HNU.out _).mono ?_
   rintro e w3 ⟨v,rfl,hv,hb⟩
   have kp3:=((bcell hb).1 p 0 (by omega)).trans kp2
   have kq3:=((bcell hb).1 q 0 (by omega)).trans kq2
   have kp3':=((bcell hb).1 p' 0 hp1').trans kp'
   have kq3':=((bcell hb).1 q' 0 hq1').trans kq'
   have hz3:=hb.size
   have hb:=HA2.out.trans (hb.mono (by simp only [World.size_alloc];omega))
   have hc3:=(bcell hb).1
   simp only [World.size_alloc] at hc3
   have HA3:=Lib.hid hb
   have HV:=Lib.hid hv
   clear hb kp2 kq2 kp' kq' hv hc2
   go_wp2_with fail
   refine (HRG.out v w3 p q HV.out kp3 kq3).mono ?_
   rintro e w4 ⟨rfl,rfl⟩
   clear kp3 kq3
   go_wp2_with fail
   refine (HBA.out w3 (((Below.refl w.heap.size w).alloc (Nat.le_refl _) _).trans (HA3.out.mono (by simp)))).mono ?_
   rintro e w4 ⟨rfl,hb⟩
   have kp4':=((bcell hb).1 p' 0 (by omega)).trans kp3'
   have kq4':=((bcell hb).1 q' 0 (by omega)).trans kq3'
   have hz4:=hb.size
   have hb:=HA3.out.trans (hb.mono (by simp only [World.size_alloc];omega))
   have hc4:=(bcell hb).1
   simp only [World.size_alloc] at hc4
   have HA4:=Lib.hid hb
   clear hb hc3
   go_wp2_with fail
   go_ret
   exact ⟨rfl,((Below.refl w.heap.size w).alloc (Nat.le_refl _) _).trans (HA4.out.mono (by simp))⟩
 rw [if_neg hk4] at hx
 obtain rfl:false=x:=by simpa using hx
 have k4:(kind == 4)=false:=by simpa using hk4
 clear hk0 hk1 hk2 hk3 hk4 hx
 go_enter Tryz.func164,Tryz.ntmps164
 go_wp2_with fail
 refine (from_any 0 1099511627776 _).mono ?_
 rintro e w1 ⟨p,q,rfl,hp0,hp1,hq0,hq1,kp,kq,hb⟩
 have hz1:=hb.size
 have hc1:=(bcell hb).1
 simp only [World.size_alloc] at hz1 hp0 hq0 hc1
 have HA1:=Lib.hid hb
 clear hb
 go_wp2_with fail
 refine (from_any 0 0 _).mono ?_
 rintro e w2 ⟨p',q',rfl,hp0',hp1',hq0',hq1',kp',kq',hb⟩
 have kp2:=((bcell hb).1 p 0 hp1).trans kp
 have kq2:=((bcell hb).1 q 0 hq1).trans kq
 have hz2:=hb.size
 have hb:=HA1.out.trans (hb.mono (by simp only [World.size_alloc];omega))
 have hc2:=(bcell hb).1
 simp only [World.size_alloc] at hc2
 have HA2:=Lib.hid hb
 clear hb kp kq HA1 hc1
 go_wp2_with fail
 refine (HNU.out _).mono ?_
 rintro e w3 ⟨v,rfl,hv,hb⟩
 have kp3:=((bcell hb).1 p 0 (by omega)).trans kp2
 have kq3:=((bcell hb).1 q 0 (by omega)).trans kq2
 have kp3':=((bcell hb).1 p' 0 hp1').trans kp'
 have kq3':=((bcell hb).1 q' 0 hq1').trans kq'
 have hz3:=hb.size
 have hb:=HA2.out.trans (hb.mono (by simp only [World.size_alloc];omega))
 have hc3:=(bcell hb).1
 simp only [World.size_alloc] at hc3
 have HA3:=Lib.hid hb
 have HV:=Lib.hid hv
 clear hb kp2 kq2 kp' kq' hv hc2
 go_wp2_with fail
 refine (HRG.out v w3 p q HV.out kp3 kq3).mono ?_
 rintro e w4 ⟨rfl,rfl⟩
 clear kp3 kq3
 go_wp2_with fail
 go_ret
 exact ⟨rfl,((Below.refl w.heap.size w).alloc (Nat.le_refl _) _).trans (HA3.out.mono (by simp))⟩
structure Bd (m:MsgM):Prop where
 kind:1≤m.kind∧m.kind≤4
 queue:0≤m.queue∧m.queue≤2
 retry:0≤m.retry∧m.retry≤4
 due:0≤m.due∧m.due≤1099511627776
 ref:0≤m.ref∧m.ref≤1099511627776
 born:0≤m.born∧m.born≤1099511627776
 topic:m.topic.size≤16
 tag:m.tag.size≤16
 body:m.body.size≤200
 many:m.keys.length≤3
 keys:∀ t∈m.keys,t.size≤16
theorem allIn_iff {a b:Int} {zs:List Int}:allIn a b zs=true↔∀ x∈zs,a≤x∧x≤b:=by
 unfold allIn
 simp [List.all_eq_true]
theorem empty_size {s:ByteArray} (h:s.toList.isEmpty=true):s.size=0:=by
 rw [List.isEmpty_iff,ByteArray.toList_eq] at h
 have:=congrArg List.length h
 rw [Array.length_toList] at this
 exact this
theorem plain_le {s:ByteArray} (h:plainB s=true):s.size≤16:=(okL_iff.1 h).2.1
theorem own_le {s h:ByteArray} (k:ownB s h=true):s.size≤h.size+8:=by
 unfold ownB at k
 rw [Bool.and_eq_true] at k
 have h1:=(okL_iff.1 k.2).2.1
 rw [ByteArray.size_extract] at h1
 omega
theorem topic_le {s:ByteArray} (h:topicB s=true):s.size≤16:=by
 unfold topicB isOwn at h
 rw [Bool.or_eq_true,Bool.or_eq_true] at h
 rcases h with (h|h)|h
 ·have:=own_le h
  have e:(retryH:ByteArray).size=7:=rfl
  omega
 ·have:=own_le h
  have e:(deadH:ByteArray).size=6:=rfl
  omega
 ·exact plain_le h
theorem tag_le {s:ByteArray} (h:tagB s=true):s.size≤16:=by
 unfold tagB at h
 rw [Bool.or_eq_true] at h
 rcases h with h|h
 ·rw [empty_size h];omega
 ·exact plain_le h
theorem whole_bd {m:MsgM} (h:wholeB m=true):(0≤m.queue∧m.queue≤2)∧(0≤m.retry∧m.retry≤4)∧m.topic.size≤16∧m.tag.size≤16∧m.body.size≤200∧m.keys.length≤3∧∀ t∈m.keys,t.size≤16:=by
 unfold wholeB at h
 simp only [Bool.and_eq_true,decide_eq_true_eq] at h
 obtain ⟨h1,h2,h3,h4,h5,h6⟩:=h
 unfold keysB at h5
 simp only [Bool.and_eq_true,decide_eq_true_eq] at h5
 obtain ⟨k1,k2,k3⟩:=h5
 refine ⟨allIn_iff.1 h1 _ (by simp),allIn_iff.1 h2 _ (by simp),topic_le h3,tag_le h4,h6,k1,fun t ht=>?_⟩
 exact (okL_iff.1 (List.all_eq_true.1 k2 t ht)).2.1
theorem bare_bd {m:MsgM} (h:bareB m=true):m.queue=0∧m.due=0∧m.retry=0∧m.keys=[]∧m.topic.size=0∧m.tag.size=0:=by
 unfold bareB at h
 simp only [Bool.and_eq_true] at h
 obtain ⟨h1,h2,h3⟩:=h
 have h1:=allIn_iff.1 h1
 have a1:=h1 m.queue (by simp)
 have a2:=h1 m.due (by simp)
 have a3:=h1 m.retry (by simp)
 have a4:=h1 (m.keys.length:Int) (by simp)
 refine ⟨by omega,by omega,by omega,List.length_eq_zero_iff.1 (by omega),empty_size h2,empty_size h3⟩
theorem right_bd {m:MsgM} (h:rightB m=true) (hk:m.kind≠0):Bd m:=by
 unfold rightB at h
 rw [Bool.and_eq_true] at h
 obtain ⟨h1,h2⟩:=h
 have h1:=allIn_iff.1 h1
 have n1:=h1 m.due (by simp [MsgM.nums])
 have n2:=h1 m.ref (by simp [MsgM.nums])
 have n3:=h1 m.born (by simp [MsgM.nums])
 unfold restB at h2
 rw [if_neg hk] at h2
 by_cases k1:m.kind=1
 ·rw [if_pos k1,Bool.and_eq_true] at h2
  obtain ⟨a,b,c,d,e,f,g⟩:=whole_bd h2.1
  exact ⟨by omega,a,b,n1,n2,n3,c,d,e,f,g⟩
 rw [if_neg k1] at h2
 by_cases k2:m.kind=2∨m.kind=3
 ·rw [if_pos k2] at h2
  obtain ⟨a,b,c,d,e,f,g⟩:=whole_bd h2
  exact ⟨by omega,a,b,n1,n2,n3,c,d,e,f,g⟩
 rw [if_neg k2] at h2
 by_cases k4:m.kind=4
 ·rw [if_pos k4,Bool.and_eq_true] at h2
  obtain ⟨a,b,c,d,e,f⟩:=bare_bd h2.1
  have g:=empty_size h2.2
  exact ⟨by omega,by omega,by omega,n1,n2,n3,by omega,by omega,by omega,by rw [d];simp,by rw [d];intro t ht;cases ht⟩
 rw [if_neg k4] at h2
 cases h2
def packB (m:MsgM):List UInt8:=Oc.numsB 1 [m.kind,m.queue,m.retry] ++ (Oc.numsB 6 [m.born,m.due,m.ref] ++ ([m.topic,m.tag,m.body].flatMap Oc.txtB ++ Oc.listB m.keys))
theorem numsB3 (n:Nat) (a b c:Int):(Oc.numsB n [a,b,c]).length=n+(n+n):=by
 unfold Oc.numsB
 simp [Oc.numB_length]
theorem listB_le {l:List ByteArray} (h1:l.length≤3) (h2:∀ t∈l,t.size≤16):(Oc.listB l).length≤55:=by
 unfold Oc.listB
 rw [List.length_append,Oc.numB_length]
 have:∀ (l:List ByteArray),(∀ t∈l,t.size≤16)→(l.flatMap Oc.txtB).length≤18*l.length:=by
  intro l
  induction l with
  | nil=>intro _;simp
  | cons t l ih=>
   intro h
   rw [List.flatMap_cons,List.length_append,Oc.txtB_length,List.length_cons]
   have:=ih fun u hu=>h u (List.mem_cons_of_mem _ hu)
   have:=h t (List.mem_cons_self ..)
   omega
 have:=this l h2
 omega
theorem packB_le {m:MsgM} (h:Bd m):(packB m).length≤320:=by
 unfold packB
 have h1:=listB_le h.many h.keys
 have h2:=h.topic
 have h3:=h.tag
 have h4:=h.body
 simp only [List.length_append,numsB3,List.flatMap_cons,List.flatMap_nil,Oc.txtB_length,List.length_nil]
 omega
theorem fit3 {n:Nat} {a b c:Int} (ha:Oc.FitN n a) (hb:Oc.FitN n b) (hc:Oc.FitN n c):∀ x∈[a,b,c],Oc.FitN n x:=by
 intro x hx
 simp only [List.mem_cons,List.not_mem_nil,or_false] at hx
 rcases hx with rfl|rfl|rfl<;>assumption
theorem num3_at (n:Nat) (a b c:Int) (s:ByteArray) (W:World) (h1:1≤n) (h7:n≤7) (hf:∀ x∈[a,b,c],Oc.FitN n x) (hs:s=⟨(Oc.numsB n [a,b,c]).toArray⟩) :
 Calls Tryz.prog 128 #[.int .i64 n,.slice (some ⟨W.heap.size,0,none⟩) 3 3] (W.alloc (.cells #[.int .i64 a,.int .i64 b,.int .i64 c] 3)) fun e w'=>e = .returned (.tuple #[.string s,.int .i64 0])∧Below W.heap.size W w':=by
 subst hs
 refine (Oc.numS_ok n _ [a,b,c] _ h1 h7 (by decide:(3:Nat)≤1000000) (ints_alloc W [a,b,c] 3) hf).mono fun e w' h=>⟨h.1,?_⟩
 exact ((Below.refl W.heap.size W).alloc (Nat.le_refl _) _).trans (h.2.mono (by simp only [World.size_alloc];omega))
theorem text3_at (a b c:ByteArray) (s:ByteArray) (W:World) (ha:a.size≤200) (hb:b.size≤200) (hc:c.size≤200) (hs:s=⟨([a,b,c].flatMap Oc.txtB).toArray⟩) :
 Calls Tryz.prog 204 #[.slice (some ⟨W.heap.size,0,none⟩) 3 3] (W.alloc (.cells #[.string a,.string b,.string c] 9)) fun e w'=>e = .returned (.tuple #[.string s,.int .i64 0])∧Below W.heap.size W w':=by
 subst hs
 have hst:Strs (W.alloc (.cells #[.string a,.string b,.string c] 9)) 0 (.slice (some ⟨W.heap.size,0,none⟩) 3 3) [a,b,c]:=(strs_alloc W [a,b,c] 9).zero
 refine (Oc.textW_ok _ [a,b,c] _ (by decide:(3:Nat)≤1000) (fun t ht=>by
  simp only [List.mem_cons,List.not_mem_nil,or_false] at ht
  rcases ht with rfl|rfl|rfl<;>omega) hst).mono fun e w' h=>⟨h.1,?_⟩
 exact ((Below.refl W.heap.size W).alloc (Nat.le_refl _) _).trans (h.2.mono (by simp only [World.size_alloc];omega))
set_option maxHeartbeats 4000000 in
set_option maxRecDepth 100000 in
theorem packed_any (m:MsgM) (vk:Value) (s:ByteArray) (w:World) (hk:Strs w 0 vk m.keys) (hb:Bd m) (hs:s=⟨(packB m).toArray⟩) :
 Calls Tryz.prog 167 #[m.val vk] w fun e w'=>e = .returned (.string s)∧Below w.heap.size w w':=by
 obtain ⟨s1,h1⟩:∃ s:ByteArray,s=⟨(Oc.numsB 1 [m.kind,m.queue,m.retry]).toArray⟩:=⟨_,rfl⟩
 obtain ⟨s2,h2⟩:∃ s:ByteArray,s=⟨(Oc.numsB 6 [m.born,m.due,m.ref]).toArray⟩:=⟨_,rfl⟩
 obtain ⟨s3,h3⟩:∃ s:ByteArray,s=⟨([m.topic,m.tag,m.body].flatMap Oc.txtB).toArray⟩:=⟨_,rfl⟩
 obtain ⟨s4,h4⟩:∃ s:ByteArray,s=⟨(Oc.listB m.keys).toArray⟩:=⟨_,rfl⟩
 have b1:s1.size≤400:=by rw [h1,Oc.size_of,numsB3];omega
 have b2:s2.size≤400:=by rw [h2,Oc.size_of,numsB3];omega
 have b3:s3.size≤400:=by
  rw [h3,Oc.size_of]
  have h2:=hb.topic
  have h3:=hb.tag
  have h4:=hb.body
  simp only [List.length_append,List.flatMap_cons,List.flatMap_nil,Oc.txtB_length,List.length_nil]
  omega
 have b4:s4.size≤400:=by rw [h4,Oc.size_of];have:=listB_le hb.many hb.keys;omega
 have hcat:s1 ++ s2 ++ s3 ++ s4=s:=by
  rw [hs,h1,h2,h3,h4,append_toArray,append_toArray,append_toArray]
  unfold packB
  simp only [List.append_assoc]
 have f1:∀ x∈[m.kind,m.queue,m.retry],Oc.FitN 1 x:=fit3 (by have:=hb.kind;unfold Oc.FitN;omega) (by have:=hb.queue;unfold Oc.FitN;omega) (by have:=hb.retry;unfold Oc.FitN;omega)
 have f2:∀ x∈[m.born,m.due,m.ref],Oc.FitN 6 x:=fit3 (by have:=hb.born;unfold Oc.FitN;omega) (by have:=hb.due;unfold Oc.FitN;omega) (by have:=hb.ref;unfold Oc.FitN;omega)
 have HN1:Hid (Calls Tryz.prog 128 #[.int .i64 1,.slice (some ⟨w.heap.size+1,0,none⟩) 3 3] ((w.alloc (.cells (m.cells vk) 36)).alloc (.cells #[.int .i64 m.kind,.int .i64 m.queue,.int .i64 m.retry] 3)) fun e w'=>e = .returned (.tuple #[.string s1,.int .i64 0])∧Below (w.heap.size+1) (w.alloc (.cells (m.cells vk) 36)) w'):=Lib.hid (by
  have:=num3_at 1 m.kind m.queue m.retry s1 (w.alloc (.cells (m.cells vk) 36)) (by decide) (by decide) f1 h1
  simp only [World.size_alloc] at this
  exact this)
 have HN2:=Lib.hid fun W=>num3_at 6 m.born m.due m.ref s2 W (by decide) (by decide) f2 h2
 have HT3:=Lib.hid fun W=>text3_at m.topic m.tag m.body s3 W (by have:=hb.topic;omega) (by have:=hb.tag;omega) hb.body h3
 have HL4:Hid (∀ W,Below w.heap.size w W→Calls Tryz.prog 205 #[vk] W fun e w'=>e = .returned (.tuple #[.string s4,.int .i64 0])∧Below W.heap.size W w'):=Lib.hid fun W hbl=>by
  rw [h4]
  exact Oc.listW_ok vk m.keys W (by have:=hb.many;omega) (fun t ht=>by have:=hb.keys t ht;omega) (hk.below hbl (Nat.le_refl _))
 have HC:=Lib.hid hcat
 clear hs h1 h2 h3 h4 hcat f1 f2 hb hk
 unfold MsgM.val
 unfold MsgM.cells at *
 go_enter Tryz.func167,Tryz.ntmps167
 go_wp2_with fail
 refine HN1.out.mono ?_
 rintro e w1 ⟨rfl,hb⟩
 have hz1:=hb.size
 have hc1:=(bcell hb).1
 simp only [World.size_alloc] at hz1
 have HA1:=Lib.hid hb
 clear hb
 go_wp2_with fail
 refine (HN2.out w1).mono ?_
 rintro e w2 ⟨rfl,hb⟩
 have hz2:=hb.size
 have hb:=HA1.out.trans (hb.mono (by omega))
 have hc2:=(bcell hb).1
 have HA2:=Lib.hid hb
 clear hb hc1
 go_wp2_with fail
 refine (HT3.out w2).mono ?_
 rintro e w3 ⟨rfl,hb⟩
 have hz3:=hb.size
 have hb:=HA2.out.trans (hb.mono (by omega))
 have hc3:=(bcell hb).1
 have HA3:=Lib.hid hb
 clear hb hc2
 go_wp2_with fail
 refine (HL4.out w3 (((Below.refl w.heap.size w).alloc (Nat.le_refl _) _).trans (HA3.out.mono (by omega)))).mono ?_
 rintro e w4 ⟨rfl,hb⟩
 have hz4:=hb.size
 have HA4:=Lib.hid (HA3.out.trans (hb.mono (by omega)))
 clear hb hc3
 go_wp2_with fail
 rw [HC.out]
 go_ret
 exact ⟨rfl,((Below.refl w.heap.size w).alloc (Nat.le_refl _) _).trans (HA4.out.mono (by omega))⟩
def frameB (k:UInt8) (rest:List UInt8):List UInt8:=k :: (Oc.numB 2 (3+rest.length) ++ rest)
set_option maxRecDepth 100000 in
theorem framed_any (k:UInt8) (rest s:ByteArray) (w:World) (h:rest.size≤60000) (hs:s=⟨(frameB k rest.data.toList).toArray⟩) :
 Calls Tryz.prog 165 #[.string ⟨#[k]⟩,.string rest] w fun e w'=>e = .returned (.string s)∧Below w.heap.size w w':=by
 obtain ⟨n,hn⟩:∃ n:ByteArray,n=⟨(Oc.numB 2 (3+rest.size)).toArray⟩:=⟨_,rfl⟩
 have hnz:n.size≤2:=by rw [hn,Oc.size_of,Oc.numB_length];exact Nat.le_refl _
 have hcat:(⟨#[k]⟩:ByteArray) ++ n ++ rest=s:=by
  obtain ⟨l,hl⟩:=Oc.bytes_of rest
  rw [hs,hn,hl]
  have e1:(⟨#[k]⟩:ByteArray)=⟨[k].toArray⟩:=rfl
  rw [e1,append_toArray,append_toArray]
  unfold frameB
  rfl
 have HN:Hid (Calls Tryz.prog 128 #[.int .i64 2,.slice (some ⟨w.heap.size,0,none⟩) 1 1] (w.alloc (.cells #[.int .i64 (3+(rest.size:Int))] 3)) fun e w'=>e = .returned (.tuple #[.string n,.int .i64 0])∧Below w.heap.size w w'):=Lib.hid (by
  refine (Oc.numS_ok 2 _ [3+(rest.size:Int)] _ (by decide) (by decide) (by decide:(1:Nat)≤1000000) (ints_alloc w [3+(rest.size:Int)] 3) ?_).mono fun e w' h=>⟨?_,?_⟩
  ·intro x hx
   rw [List.mem_singleton] at hx
   subst hx
   unfold Oc.FitN
   omega
  ·rw [h.1,hn]
   have e2:(3+(rest.size:Int)).toNat=3+rest.size:=by omega
   unfold Oc.numsB
   simp only [List.flatMap_cons,List.flatMap_nil,List.append_nil,e2]
  ·exact ((Below.refl w.heap.size w).alloc (Nat.le_refl _) _).trans (h.2.mono (by simp only [World.size_alloc];omega)))
 have HC:=Lib.hid hcat
 have hkz:(⟨#[k]⟩:ByteArray).size=1:=rfl
 have HKZ:=Lib.hid hkz
 obtain ⟨mk,hmk⟩:∃ mk:ByteArray,mk=⟨#[k]⟩:=⟨_,rfl⟩
 rw [←hmk] at HC HKZ ⊢
 have hmz:mk.size≤1:=Nat.le_of_eq HKZ.out
 clear hs hn hcat hkz hmk HKZ
 go_enter Tryz.func165,Tryz.ntmps165
 go_wp2_with fail
 refine HN.out.mono ?_
 rintro e w1 ⟨rfl,hb⟩
 have HB:=Lib.hid hb
 clear hb
 go_wp2_with fail
 rw [HC.out]
 go_ret
 exact ⟨rfl,HB.out⟩
def fillB (n:Nat):List UInt8:=frameB 90 (List.replicate (n - 3) 0)
theorem fill_no (n:Int) (w:World) (h:n<3∨1024<n):Calls Tryz.prog 116 #[.int .i64 n] w fun e w'=>e = .returned (.tuple #[.string ⟨#[]⟩,.bool false])∧w=w':=by
 by_cases h3:n<3
 ·clear h
  go_enter Tryz.func116,Tryz.ntmps116
  go_wp2_with fail
  go_ret2
  exact ⟨rfl,rfl⟩
 ·have h4:1024<n:=by omega
  clear h
  go_enter Tryz.func116,Tryz.ntmps116
  go_wp2_with fail
  go_ret2
  exact ⟨rfl,rfl⟩
theorem fill_yes (n:Nat) (s:ByteArray) (w:World) (h3:3≤n) (h4:n≤1024) (hs:s=⟨(fillB n).toArray⟩):Calls Tryz.prog 116 #[.int .i64 n] w fun e w'=>e = .returned (.tuple #[.string s,.bool true])∧Below w.heap.size w w':=by
 obtain ⟨k,rfl⟩:∃ k,n=k+3:=⟨n - 3,by omega⟩
 obtain ⟨t,ht⟩:∃ t,t=nots k:=⟨_,rfl⟩
 have hts:t.size≤60000:=by rw [ht,nots_size];omega
 have HN:Hid (Calls Tryz.prog 168 #[.int .i64 k] w fun e w'=>e = .returned (.string t)∧Below w.heap.size w w'):=Lib.hid (by rw [ht];exact nots_any k w (by omega))
 have HF:=Lib.hid fun W=>framed_any 90 t s W hts (by
  rw [hs,ht]
  unfold fillB
  rw [Nat.add_sub_cancel]
  rfl)
 have e3:((k+3:Nat):Int) - 3=(k:Int):=by omega
 have g1:¬ ((k+3:Nat):Int)<3:=by omega
 have g2:¬ (1024:Int)<((k+3:Nat):Int):=by omega
 obtain ⟨nI,hnI⟩:∃ nI:Int,nI=((k+3:Nat):Int):=⟨_,rfl⟩
 rw [←hnI] at e3 g1 g2 ⊢
 have b0:3≤nI:=by omega
 have b1:nI≤1024:=by omega
 clear hs ht hnI g1 g2
 go_enter Tryz.func116,Tryz.ntmps116
 go_wp2_with fail
 refine HN.out.mono ?_
 rintro e w1 ⟨rfl,hb⟩
 have HB:=Lib.hid hb
 clear hb
 go_wp2_with fail
 refine (HF.out w1).mono ?_
 rintro e w2 ⟨rfl,hb⟩
 have HB2:=Lib.hid (HB.out.trans (hb.mono HB.out.size))
 clear hb
 go_wp2_with fail
 go_ret2
 exact ⟨rfl,HB2.out⟩
def recB (m:MsgM):List UInt8:=frameB 165 (Cr.sealB ⟨(packB m).toArray⟩)
def putO (m:MsgM):Option (List UInt8):=if rightB m=true then (if m.kind≠0 then some (recB m) else if 3≤m.body.size then some (fillB m.body.size) else none) else none
def RPutTo (m:MsgM) (w:World) (e:Ending) (w':World):Prop:=e = .returned (.tuple #[.string ⟨((putO m).getD []).toArray⟩,.int .i64 (if (putO m).isSome then 0 else 1)])∧Below w.heap.size w w'
theorem fill_body {m:MsgM} (h:rightB m=true) (hk:m.kind=0):m.body.size≤1024∧m.body=nots m.body.size∧bareB m=true∧m.ref=0∧m.born=0:=by
 unfold rightB restB at h
 rw [if_pos hk] at h
 simp only [Bool.and_eq_true,decide_eq_true_eq] at h
 obtain ⟨_,h1,h2,h3,h4⟩:=h
 unfold notsB at h4
 have h2:=allIn_iff.1 h2
 have a:=h2 m.ref (by simp)
 have b:=h2 m.born (by simp)
 exact ⟨h3,of_decide_eq_true h4,h1,by omega,by omega⟩
set_option maxHeartbeats 4000000 in
set_option maxRecDepth 100000 in
theorem put_bad (m:MsgM) (vk:Value) (t:Nat) (w:World) (hk:Strs w 0 vk m.keys) (hcap:CapOk vk) (hs:Sound m) (ht:Cr.Tab w t) (hz:rightB m=false) :
 Calls Tryz.prog 113 #[.pointer (some ⟨t,0,none⟩),m.val vk] w (RPutTo m w):=by
 unfold RPutTo
 have htl:t<w.heap.size:=ht.lt
 have HR:Hid (∀ W,Below w.heap.size w W→Calls Tryz.prog 164 #[m.val vk] W fun e w'=>e = .returned (.bool false)∧Below W.heap.size W w'):=Lib.hid fun W hb=>right_any m vk false W (hk.below hb (Nat.le_refl _)) hcap hs hz
 have hp:putO m=none:=by unfold putO;rw [if_neg (by rw [hz];simp)]
 rw [hp]
 clear hk hcap hs ht hz hp
 unfold MsgM.val MsgM.cells at *
 go_enter Tryz.func113,Tryz.ntmps113
 go_wp2_with fail
 refine (HR.out _ ((Below.refl w.heap.size w).alloc (Nat.le_refl _) _)).mono ?_
 rintro e w1 ⟨rfl,hb⟩
 have HA1:=Lib.hid hb
 clear hb
 go_wp2_with fail
 go_ret2
 exact ⟨rfl,((Below.refl w.heap.size w).alloc (Nat.le_refl _) _).trans (HA1.out.mono (by simp))⟩
set_option maxHeartbeats 4000000 in
set_option maxRecDepth 100000 in
theorem put_fill (m:MsgM) (vk:Value) (t:Nat) (w:World) (hk:Strs w 0 vk m.keys) (hcap:CapOk vk) (hs:Sound m) (ht:Cr.Tab w t) (hz:rightB m=true) (hk0:m.kind=0) (h3:3≤m.body.size) :
 Calls Tryz.prog 113 #[.pointer (some ⟨t,0,none⟩),m.val vk] w (RPutTo m w):=by
 unfold RPutTo
 have htl:t<w.heap.size:=ht.lt
 have HR:Hid (∀ W,Below w.heap.size w W→Calls Tryz.prog 164 #[m.val vk] W fun e w'=>e = .returned (.bool true)∧Below W.heap.size W w'):=Lib.hid fun W hb=>right_any m vk true W (hk.below hb (Nat.le_refl _)) hcap hs hz
 have f1:=(fill_body hz hk0).1
 obtain ⟨nb,hnb⟩:∃ nb:Nat,nb=m.body.size:=⟨_,rfl⟩
 have hkb:(m.kind != 0)=false:=by rw [hk0];rfl
 have hp:putO m=some (fillB m.body.size):=by unfold putO;rw [if_pos hz,if_neg (by omega),if_pos h3]
 rw [hp]
 obtain ⟨s,hse⟩:∃ s:ByteArray,s=⟨(fillB m.body.size).toArray⟩:=⟨_,rfl⟩
 show Calls _ _ _ _ (fun e w'=>e = .returned (.tuple #[.string ⟨(fillB m.body.size).toArray⟩,.int .i64 0])∧_)
 rw [←hse]
 have HF:=Lib.hid fun W=>fill_yes m.body.size s W h3 f1 hse
 clear hk hcap hs ht hz hp hse hk0 hnb
 unfold MsgM.val MsgM.cells at *
 go_enter Tryz.func113,Tryz.ntmps113
 go_wp2_with fail
 refine (HR.out _ ((Below.refl w.heap.size w).alloc (Nat.le_refl _) _)).mono ?_
 rintro e w1 ⟨rfl,hb⟩
 have hz1:=hb.size
 have hc1:=(bcell hb).1
 simp only [World.size_alloc] at hz1 hc1
 have HA1:=Lib.hid hb
 clear hb
 go_wp2_with fail
 refine (HF.out w1).mono ?_
 rintro e w2 ⟨rfl,hb⟩
 have HA2:=Lib.hid (HA1.out.trans (hb.mono (by simp only [World.size_alloc];omega)))
 clear hb
 go_wp2_with fail
 go_ret2
 exact ⟨rfl,((Below.refl w.heap.size w).alloc (Nat.le_refl _) _).trans (HA2.out.mono (by simp))⟩
set_option maxHeartbeats 4000000 in
set_option maxRecDepth 100000 in
theorem put_few (m:MsgM) (vk:Value) (t:Nat) (w:World) (hk:Strs w 0 vk m.keys) (hcap:CapOk vk) (hs:Sound m) (ht:Cr.Tab w t) (hz:rightB m=true) (hk0:m.kind=0) (h3:¬ 3≤m.body.size) :
 Calls Tryz.prog 113 #[.pointer (some ⟨t,0,none⟩),m.val vk] w (RPutTo m w):=by
 unfold RPutTo
 have htl:t<w.heap.size:=ht.lt
 have HR:Hid (∀ W,Below w.heap.size w W→Calls Tryz.prog 164 #[m.val vk] W fun e w'=>e = .returned (.bool true)∧Below W.heap.size W w'):=Lib.hid fun W hb=>right_any m vk true W (hk.below hb (Nat.le_refl _)) hcap hs hz
 have f1:=(fill_body hz hk0).1
 obtain ⟨nb,hnb⟩:∃ nb:Nat,nb=m.body.size:=⟨_,rfl⟩
 have hkb:(m.kind != 0)=false:=by rw [hk0];rfl
 have hp:putO m=none:=by unfold putO;rw [if_pos hz,if_neg (by omega),if_neg h3]
 rw [hp]
 have HF:=Lib.hid fun W=>fill_no (m.body.size:Int) W (.inl (by omega))
 clear hk hcap hs ht hz hp hk0 hnb
 unfold MsgM.val MsgM.cells at *
 go_enter Tryz.func113,Tryz.ntmps113
 go_wp2_with fail
 refine (HR.out _ ((Below.refl w.heap.size w).alloc (Nat.le_refl _) _)).mono ?_
 rintro e w1 ⟨rfl,hb⟩
 have hz1:=hb.size
 have hc1:=(bcell hb).1
 simp only [World.size_alloc] at hz1 hc1
 have HA1:=Lib.hid hb
 clear hb
 go_wp2_with fail
 refine (HF.out w1).mono ?_
 rintro e w2 ⟨rfl,rfl⟩
 go_wp2_with fail
 go_ret2
 exact ⟨rfl,((Below.refl w.heap.size w).alloc (Nat.le_refl _) _).trans (HA1.out.mono (by simp))⟩
set_option maxHeartbeats 4000000 in
set_option maxRecDepth 100000 in
theorem put_rec (m:MsgM) (vk:Value) (t:Nat) (w:World) (hk:Strs w 0 vk m.keys) (hcap:CapOk vk) (hs:Sound m) (ht:Cr.Tab w t) (hz:rightB m=true) (hk0:¬ m.kind=0) :
 Calls Tryz.prog 113 #[.pointer (some ⟨t,0,none⟩),m.val vk] w (RPutTo m w):=by
 unfold RPutTo
 have htl:t<w.heap.size:=ht.lt
 have HR:Hid (∀ W,Below w.heap.size w W→Calls Tryz.prog 164 #[m.val vk] W fun e w'=>e = .returned (.bool true)∧Below W.heap.size W w'):=Lib.hid fun W hb=>right_any m vk true W (hk.below hb (Nat.le_refl _)) hcap hs hz
 have hbd:=right_bd hz hk0
 have hp:putO m=some (recB m):=by unfold putO;rw [if_pos hz,if_pos hk0]
 rw [hp]
 obtain ⟨s,hse⟩:∃ s:ByteArray,s=⟨(recB m).toArray⟩:=⟨_,rfl⟩
 obtain ⟨pk,hpk⟩:∃ s:ByteArray,s=⟨(packB m).toArray⟩:=⟨_,rfl⟩
 obtain ⟨sl,hsl⟩:∃ s:ByteArray,s=⟨(Cr.sealB pk).toArray⟩:=⟨_,rfl⟩
 have hpz:pk.size≤320:=by rw [hpk,Oc.size_of];exact packB_le hbd
 have hslz:sl.size≤60000:=by rw [hsl,Oc.size_of,Cr.sealB_length];omega
 show Calls _ _ _ _ (fun e w'=>e = .returned (.tuple #[.string ⟨(recB m).toArray⟩,.int .i64 0])∧_)
 rw [←hse]
 have hkb:(m.kind != 0)=true:=by simpa using hk0
 have HP:Hid (∀ W,Below w.heap.size w W→Calls Tryz.prog 167 #[m.val vk] W fun e w'=>e = .returned (.string pk)∧Below W.heap.size W w'):=Lib.hid fun W hb=>packed_any m vk pk W (hk.below hb (Nat.le_refl _)) hbd hpk
 have HS:Hid (∀ W,Below w.heap.size w W→Calls Tryz.prog 166 #[.pointer (some ⟨t,0,none⟩),.string pk] W fun e w'=>e = .returned (.string sl)∧Below W.heap.size W w'):=Lib.hid fun W hb=>by
  rw [hsl]
  exact Cr.seal_any t pk W (Cr.Tab.below ht hb htl) (by omega)
 have HF:=Lib.hid fun W=>framed_any 165 sl s W hslz (by rw [hse,hsl];unfold recB;rw [←hpk])
 clear hk hcap hs ht hz hp hse hpk hsl hk0 hbd
 unfold MsgM.val MsgM.cells at *
 go_enter Tryz.func113,Tryz.ntmps113
 go_wp2_with fail
 refine (HR.out _ ((Below.refl w.heap.size w).alloc (Nat.le_refl _) _)).mono ?_
 rintro e w1 ⟨rfl,hb⟩
 have hz1:=hb.size
 have hc1:=(bcell hb).1
 simp only [World.size_alloc] at hz1 hc1
 have HA1:=Lib.hid hb
 clear hb
 go_wp2_with fail
 refine (HP.out w1 (((Below.refl w.heap.size w).alloc (Nat.le_refl _) _).trans (HA1.out.mono (by simp)))).mono ?_
 rintro e w2 ⟨rfl,hb⟩
 have hz2:=hb.size
 have HA2:=Lib.hid (HA1.out.trans (hb.mono (by simp only [World.size_alloc];omega)))
 clear hb
 go_wp2_with fail
 refine (HS.out w2 (((Below.refl w.heap.size w).alloc (Nat.le_refl _) _).trans (HA2.out.mono (by simp)))).mono ?_
 rintro e w3 ⟨rfl,hb⟩
 have hz3:=hb.size
 have HA3:=Lib.hid (HA2.out.trans (hb.mono (by simp only [World.size_alloc];omega)))
 clear hb
 go_wp2_with fail
 refine (HF.out w3).mono ?_
 rintro e w4 ⟨rfl,hb⟩
 have HA4:=Lib.hid (HA3.out.trans (hb.mono (by simp only [World.size_alloc];omega)))
 clear hb
 go_wp2_with fail
 go_ret2
 exact ⟨rfl,((Below.refl w.heap.size w).alloc (Nat.le_refl _) _).trans (HA4.out.mono (by simp))⟩
theorem rec_put_any (m:MsgM) (vk:Value) (t:Nat) (w:World) (hk:Strs w 0 vk m.keys) (hcap:CapOk vk) (hs:Sound m) (ht:Cr.Tab w t) :
 Calls Tryz.prog 113 #[.pointer (some ⟨t,0,none⟩),m.val vk] w (RPutTo m w):=by
 by_cases hz:rightB m=true
 ·by_cases hk0:m.kind=0
  ·by_cases h3:3≤m.body.size
   ·exact put_fill m vk t w hk hcap hs ht hz hk0 h3
   ·exact put_few m vk t w hk hcap hs ht hz hk0 h3
  ·exact put_rec m vk t w hk hcap hs ht hz hk0
 ·exact put_bad m vk t w hk hcap hs ht (by simpa using hz)
def Box (w:World) (b:Nat) (cs:Array Value):Prop:=w.heap[b]? = some (.cells cs 36 (0,0))
theorem Box.lt {w:World} {b:Nat} {cs:Array Value} (h:Box w b cs):b<w.heap.size:=(Array.getElem?_eq_some_iff.1 h).1
theorem Box.cell {w:World} {b:Nat} {cs:Array Value} (h:Box w b cs) (i:Nat):w.cell? ⟨b,i,none⟩=cs[i]?:=by
 unfold Box at h
 unfold World.cell?
 simp only [h]
 simp
theorem Box.free {w:World} {b:Nat} {cs:Array Value} (h:Box w b cs) (i:Nat):w.frozen? ⟨b,i,none⟩=false:=by
 unfold Box at h
 simp [World.frozen?,h]
theorem Box.set {w:World} {b:Nat} {cs:Array Value} (h:Box w b cs) (i:Nat) (v:Value):Box (w.setCell ⟨b,i,none⟩ v) b (cs.setIfInBounds i v):=by
 unfold Box at *
 unfold World.setCell
 simp [h,Array.getElem?_modify]
theorem Box.setO {w:World} {b b':Nat} {cs:Array Value} (h:Box w b cs) (hb:b≠b') (i:Nat) (v:Value):Box (w.setCell ⟨b',i,none⟩ v) b cs:=by
 unfold Box at *
 rw [Below.heap_setCell _ _ _ _ (by simpa using hb)]
 exact h
theorem Box.grown {w w':World} {b r:Nat} {cs:Array Value} (h:Box w b cs) (hg:w.grownBy w' (some r)) (hb:b≠r):Box w' b cs:=(hg.block b h.lt (by simpa using hb)).trans h
theorem Box.below {w w':World} {b B:Nat} {cs:Array Value} (h:Box w b cs) (hg:Below B w w') (hb:b<B):Box w' b cs:=by
 unfold Box at *
 rw [hg.block b hb]
 exact h
theorem Box.new (w:World) (cs:Array Value):Box (w.alloc (.cells cs 36)) w.heap.size cs:=heap_alloc_new w _
theorem Box.alloc {w:World} {b:Nat} {cs:Array Value} (h:Box w b cs) (o:Obj):Box (w.alloc o) b cs:=(Below.heap_alloc w o b h.lt).trans h
def zc:Array Value:=#[.int .i64 0,.int .i64 0,.int .i64 0,.int .i64 0,.int .i64 0,.int .i64 0,.string ⟨#[]⟩,.string ⟨#[]⟩,.string ⟨#[]⟩,.slice none 0 0]
def zeroM:MsgM:=⟨0,0,0,0,0,0,⟨#[]⟩,⟨#[]⟩,⟨#[]⟩,[]⟩
theorem strs_set {w:World} {B b:Nat} {v:Value} {ts:List ByteArray} (h:Strs w B v ts) (hb:b<B) (i:Nat) (u:Value):Strs (w.setCell ⟨b,i,none⟩ u) B v ts:=by
 obtain ⟨a,cap,rfl,h⟩:=h
 refine ⟨a,cap,rfl,?_⟩
 rcases h with h|⟨c,o,rfl,hc,h⟩
 ·exact .inl h
 ·refine .inr ⟨c,o,rfl,hc,fun k hk=>?_⟩
  exact (World.cell?_of_block (Below.heap_setCell _ _ _ _ (by show c≠b;omega))).trans (h k hk)
def set10 (w:World) (P:Nat) (c0 c1 c2 c3 c4 c5 c6 c7 c8 c9:Value):World:=
 (((((((((w.setCell ⟨P,0,none⟩ c0).setCell ⟨P,1,none⟩ c1).setCell ⟨P,2,none⟩ c2).setCell ⟨P,3,none⟩ c3).setCell ⟨P,4,none⟩ c4).setCell ⟨P,5,none⟩ c5).setCell ⟨P,6,none⟩ c6).setCell ⟨P,7,none⟩ c7).setCell ⟨P,8,none⟩ c8).setCell ⟨P,9,none⟩ c9
theorem box_set10 {w:World} {P:Nat} (h:Box w P zc) (c0 c1 c2 c3 c4 c5 c6 c7 c8 c9:Value):Box (set10 w P c0 c1 c2 c3 c4 c5 c6 c7 c8 c9) P #[c0,c1,c2,c3,c4,c5,c6,c7,c8,c9]:=by
 have h1:=(((((((((h.set 0 c0).set 1 c1).set 2 c2).set 3 c3).set 4 c4).set 5 c5).set 6 c6).set 7 c7).set 8 c8).set 9 c9
 have e:(((((((((zc.setIfInBounds 0 c0).setIfInBounds 1 c1).setIfInBounds 2 c2).setIfInBounds 3 c3).setIfInBounds 4 c4).setIfInBounds 5 c5).setIfInBounds 6 c6).setIfInBounds 7 c7).setIfInBounds 8 c8).setIfInBounds 9 c9 = #[c0,c1,c2,c3,c4,c5,c6,c7,c8,c9]:=by
  simp [zc]
 rw [e] at h1
 exact h1
theorem below_set10 {w wk:World} {B P:Nat} (h:Below B w wk) (hp:B≤P) (c0 c1 c2 c3 c4 c5 c6 c7 c8 c9:Value):Below B w (set10 wk P c0 c1 c2 c3 c4 c5 c6 c7 c8 c9):=
 (((((((((h.setCell hp c0).setCell hp c1).setCell hp c2).setCell hp c3).setCell hp c4).setCell hp c5).setCell hp c6).setCell hp c7).setCell hp c8).setCell hp c9
theorem strs_set10 {w:World} {B P:Nat} {v:Value} {ts:List ByteArray} (h:Strs w B v ts) (hb:P<B) (c0 c1 c2 c3 c4 c5 c6 c7 c8 c9:Value):Strs (set10 w P c0 c1 c2 c3 c4 c5 c6 c7 c8 c9) B v ts:=
 strs_set (strs_set (strs_set (strs_set (strs_set (strs_set (strs_set (strs_set (strs_set (strs_set h hb _ _) hb _ _) hb _ _) hb _ _) hb _ _) hb _ _) hb _ _) hb _ _) hb _ _) hb _ _
def numR (s:ByteArray) (x:Int) (n:Int):Nat×ByteArray×Int:=if x=0 then ((Oc.numS s n).1,Oc.goS s (Oc.numS s n).2.1 (Oc.numS s n).2.2,(Oc.numS s n).2.2) else (0,s,x)
def textR (s:ByteArray) (x:Int) (n:Int):ByteArray×ByteArray×Int:=if x=0 then ((Oc.textS s n).1,Oc.goS s (Oc.textS s n).2.1 (Oc.textS s n).2.2,(Oc.textS s n).2.2) else (⟨#[]⟩,s,x)
def listR (s:ByteArray) (x:Int) (n k:Int):List ByteArray×ByteArray×Int:=if x=0 then ((Oc.listS s n k).1,Oc.goS s (Oc.listS s n k).2.1 (Oc.listS s n k).2.2,(Oc.listS s n k).2.2) else ([],s,x)
structure UI (w wk:World) (P R M:Nat) (cs:Array Value) (s:ByteArray) (x:Int):Prop where
 rd:Oc.Rd wk R s x
 box:Box wk M cs
 zero:Box wk P zc
 bel:Below w.heap.size w wk
 rm:R≠M
 pr:P≠R
 pm:P≠M
 p0:w.heap.size≤P
 r0:w.heap.size≤R
 m0:w.heap.size≤M
 pl:P<M
theorem UI.read {w wk w':World} {P R M:Nat} {cs:Array Value} {s s':ByteArray} {x x':Int} (h:UI w wk P R M cs s x) (hr:Oc.Rd w' R s' x') (hg:wk.grownBy w' (some R)):UI w w' P R M cs s' x':=
 ⟨hr,h.box.grown hg h.rm.symm,h.zero.grown hg h.pr,below_grown' h.bel hg (Nat.le_refl _) h.r0,h.rm,h.pr,h.pm,h.p0,h.r0,h.m0,h.pl⟩
theorem UI.set {w wk:World} {P R M:Nat} {cs:Array Value} {s:ByteArray} {x:Int} (h:UI w wk P R M cs s x) (i:Nat) (v:Value):UI w (wk.setCell ⟨M,i,none⟩ v) P R M (cs.setIfInBounds i v) s x:=by
 refine ⟨?_,h.box.set i v,h.zero.setO h.pm i v,h.bel.setCell h.m0 v,h.rm,h.pr,h.pm,h.p0,h.r0,h.m0,h.pl⟩
 have:=h.rd
 unfold Oc.Rd at *
 rw [Below.heap_setCell _ _ _ _ (by simpa using h.rm)]
 exact this
def NumTo (w:World) (P R M:Nat) (cs:Array Value) (v:Nat) (s:ByteArray) (x:Int) (e:Ending) (w':World):Prop:=e = .returned (.int .i64 v)∧UI w w' P R M cs s x
theorem num_at {w wk:World} {P R M:Nat} {cs:Array Value} {s s':ByteArray} {x x' n:Int} {v:Nat} (h:UI w wk P R M cs s x) (hc:numR s x n=(v,s',x')) :
 Calls Tryz.prog 77 #[.pointer (some ⟨R,0,none⟩),.int .i64 n] wk (NumTo w P R M cs v s' x'):=by
 unfold numR at hc
 by_cases hx:x=0
 ·subst hx
  rw [if_pos rfl] at hc
  simp only [Prod.mk.injEq] at hc
  obtain ⟨rfl,rfl,rfl⟩:=hc
  refine (Oc.num_any R s n wk h.rd rfl).mono ?_
  rintro e w' ⟨rfl,hr,hg⟩
  exact ⟨rfl,h.read hr hg⟩
 ·rw [if_neg hx] at hc
  simp only [Prod.mk.injEq] at hc
  obtain ⟨rfl,rfl,rfl⟩:=hc
  refine (Oc.num_none R s n x wk h.rd hx).mono ?_
  rintro e w' ⟨rfl,rfl⟩
  exact ⟨rfl,h⟩
def TextTo (w:World) (P R M:Nat) (cs:Array Value) (v:ByteArray) (s:ByteArray) (x:Int) (e:Ending) (w':World):Prop:=e = .returned (.string v)∧UI w w' P R M cs s x
theorem text_at {w wk:World} {P R M:Nat} {cs:Array Value} {s s':ByteArray} {x x' n:Int} {v:ByteArray} (h:UI w wk P R M cs s x) (hc:textR s x n=(v,s',x')) :
 Calls Tryz.prog 183 #[.pointer (some ⟨R,0,none⟩),.int .i64 n] wk (TextTo w P R M cs v s' x'):=by
 unfold textR at hc
 by_cases hx:x=0
 ·subst hx
  rw [if_pos rfl] at hc
  simp only [Prod.mk.injEq] at hc
  obtain ⟨rfl,rfl,rfl⟩:=hc
  refine (Oc.text_any R s n wk h.rd rfl).mono ?_
  rintro e w' ⟨rfl,hr,hg⟩
  exact ⟨rfl,h.read hr hg⟩
 ·rw [if_neg hx] at hc
  simp only [Prod.mk.injEq] at hc
  obtain ⟨rfl,rfl,rfl⟩:=hc
  refine (Oc.text_none R s n x wk h.rd hx).mono ?_
  rintro e w' ⟨rfl,rfl⟩
  exact ⟨rfl,h⟩
def RListTo (w:World) (P R M:Nat) (cs:Array Value) (v:List ByteArray) (s:ByteArray) (x:Int) (e:Ending) (w':World):Prop:=∃ vk,e = .returned vk∧UI w w' P R M cs s x∧Strs w' (M+1) vk v∧CapOk vk
theorem strs_low {w:World} {B C:Nat} {v:Value} {ts:List ByteArray} (h:Strs w B v ts) (hc:C≤B):Strs w C v ts:=by
 obtain ⟨a,cap,rfl,h⟩:=h
 refine ⟨a,cap,rfl,?_⟩
 rcases h with h|⟨b,o,rfl,hb,h⟩
 ·exact .inl h
 ·exact .inr ⟨b,o,rfl,Nat.le_trans hc hb,h⟩
theorem list_at {w wk:World} {P R M:Nat} {cs:Array Value} {s s':ByteArray} {x x' n k:Int} {v:List ByteArray} (h:UI w wk P R M cs s x) (hc:listR s x n k=(v,s',x')) :
 Calls Tryz.prog 184 #[.pointer (some ⟨R,0,none⟩),.int .i64 n,.int .i64 k] wk (RListTo w P R M cs v s' x'):=by
 unfold listR at hc
 by_cases hx:x=0
 ·subst hx
  rw [if_pos rfl] at hc
  simp only [Prod.mk.injEq] at hc
  obtain ⟨rfl,rfl,rfl⟩:=hc
  refine (Oc.list_full R s n k wk h.rd rfl).mono ?_
  rintro e w' ⟨vk,rfl,hfull,hst,hr,hg⟩
  obtain ⟨a,c,rfl⟩:=hfull
  exact ⟨_,rfl,h.read hr hg,strs_low hst (by have:=h.box.lt;omega),⟨a,c,c,rfl,Nat.le_refl _⟩⟩
 ·rw [if_neg hx] at hc
  simp only [Prod.mk.injEq] at hc
  obtain ⟨rfl,rfl,rfl⟩:=hc
  refine (Oc.list_none R s n k x wk h.rd hx).mono ?_
  rintro e w' ⟨rfl,rfl⟩
  exact ⟨_,rfl,h,⟨none,0,rfl,.inl rfl⟩,⟨none,0,0,rfl,Nat.le_refl _⟩⟩
structure UnpM where
 m:MsgM
 s:ByteArray
 x:Int
def unpS (p:ByteArray):UnpM:=
 let a1:=numR p 0 1
 let a2:=numR a1.2.1 a1.2.2 1
 let a3:=numR a2.2.1 a2.2.2 1
 let b1:=numR a3.2.1 a3.2.2 6
 let b2:=numR b1.2.1 b1.2.2 6
 let b3:=numR b2.2.1 b2.2.2 6
 let c1:=textR b3.2.1 b3.2.2 16
 let c2:=textR c1.2.1 c1.2.2 16
 let c3:=textR c2.2.1 c2.2.2 200
 let d:=listR c3.2.1 c3.2.2 3 16
 ⟨⟨a1.1,a2.1,b2.1,a3.1,b3.1,b1.1,c1.1,c2.1,c3.1,d.1⟩,d.2.1,d.2.2⟩
def unpB (p:ByteArray):Bool:=decide (Oc.endE (unpS p).s (unpS p).x=0) && (decide ((unpS p).m.kind≠0) && rightB (unpS p).m)
def UnpTo (p:ByteArray) (w:World) (e:Ending) (w':World):Prop:=
 ∃ m vk,e = .returned (.tuple #[m.val vk,.bool (unpB p)])∧Strs w' w.heap.size vk m.keys∧CapOk vk∧m=(if unpB p=true then (unpS p).m else zeroM)∧Below w.heap.size w w'
theorem cutS_le {s t r:ByteArray} {n x:Int} (h:Oc.cutS s n=(t,r,x)):t.size≤s.size∧r.size≤s.size:=by
 unfold Oc.cutS at h
 split at h
 ·cases h;exact ⟨Nat.zero_le _,Nat.zero_le _⟩
 ·split at h
  ·cases h;exact ⟨Nat.zero_le _,Nat.zero_le _⟩
  ·cases h
   rw [ByteArray.size_extract,ByteArray.size_extract]
   omega
theorem numS_le2 (s:ByteArray) (n:Int):(Oc.numS s n).2.1.size≤s.size:=by
 unfold Oc.numS
 split
 ·split
  ·obtain ⟨t,r,x,h⟩:∃ t r x,Oc.cutS s n=(t,r,x):=⟨_,_,_,rfl⟩
   rw [h]
   exact (cutS_le h).2
  ·exact Nat.zero_le _
 ·exact Nat.zero_le _
theorem goS_le {s r:ByteArray} {x:Int} (h:r.size≤s.size):(Oc.goS s r x).size≤s.size:=by
 unfold Oc.goS
 split
 ·exact h
 ·exact Nat.le_refl _
theorem textS_le2 (s:ByteArray) (n:Int):(Oc.textS s n).1.size≤s.size∧(Oc.textS s n).2.1.size≤s.size:=by
 unfold Oc.textS
 have h1:=numS_le2 s 2
 split
 ·split
  ·exact ⟨Nat.zero_le _,Nat.zero_le _⟩
  ·obtain ⟨t,r,x,h⟩:∃ t r x,Oc.cutS (Oc.numS s 2).2.1 (Oc.numS s 2).1=(t,r,x):=⟨_,_,_,rfl⟩
   rw [h]
   have:=cutS_le h
   exact ⟨Nat.le_trans this.1 h1,Nat.le_trans this.2 h1⟩
 ·exact ⟨Nat.zero_le _,Nat.zero_le _⟩
theorem numR_le (s:ByteArray) (x n:Int):(numR s x n).2.1.size≤s.size:=by
 unfold numR
 split
 ·exact goS_le (numS_le2 s n)
 ·exact Nat.le_refl _
theorem textR_le (s:ByteArray) (x n:Int):(textR s x n).1.size≤s.size∧(textR s x n).2.1.size≤s.size:=by
 unfold textR
 split
 ·exact ⟨(textS_le2 s n).1,goS_le (textS_le2 s n).2⟩
 ·exact ⟨Nat.zero_le _,Nat.le_refl _⟩
theorem textsS_all (most:Int) (B:Nat):∀ (n:Nat) (s:ByteArray) (acc:List ByteArray),s.size≤B→(∀ t∈acc,t.size≤B)→(∀ t∈(Oc.textsS most n s acc).1,t.size≤B)∧(Oc.textsS most n s acc).1.length≤acc.length+n
 | 0,s,acc,hs,ha=>⟨ha,Nat.le_refl _⟩
 | n+1,s,acc,hs,ha=>by
  have h1:=textS_le2 s most
  simp only [Oc.textsS]
  split
  ·have:=textsS_all most B n (Oc.textS s most).2.1 (acc ++ [(Oc.textS s most).1]) (by omega) (fun t ht=>by
    rcases List.mem_append.1 ht with ht|ht
    ·exact ha t ht
    ·rw [List.mem_singleton] at ht
     rw [ht];omega)
   refine ⟨this.1,Nat.le_trans this.2 ?_⟩
   simp only [List.length_append,List.length_singleton]
   omega
  ·exact ⟨fun t ht=>by simp at ht,Nat.zero_le _⟩
theorem listS_all (s:ByteArray) (n k:Int):(∀ t∈(Oc.listS s n k).1,t.size≤s.size)∧(Oc.listS s n k).1.length≤256:=by
 unfold Oc.listS
 have h1:=numS_le2 s 1
 have h2:(Oc.numS s 1).1<256:=Oc.numS_lt (n:=1) (s:=s) rfl
 split
 ·split
  ·exact ⟨fun t ht=>by simp at ht,Nat.zero_le _⟩
  ·have:=textsS_all k s.size (Oc.numS s 1).1 (Oc.numS s 1).2.1 [] h1 (fun t ht=>by simp at ht)
   refine ⟨this.1,Nat.le_trans this.2 ?_⟩
   simp only [List.length_nil]
   omega
 ·exact ⟨fun t ht=>by simp at ht,Nat.zero_le _⟩
theorem listR_all (s:ByteArray) (x n k:Int):(∀ t∈(listR s x n k).1,t.size≤s.size)∧(listR s x n k).1.length≤256:=by
 unfold listR
 split
 ·exact listS_all s n k
 ·exact ⟨fun t ht=>by simp at ht,Nat.zero_le _⟩
theorem unp_sound (p:ByteArray) (hp:p.size≤1000000):Sound (unpS p).m:=by
 unfold unpS
 simp only
 have a1:=numR_le p 0 1
 generalize numR p 0 1=A1 at *
 have a2:=numR_le A1.2.1 A1.2.2 1
 generalize numR A1.2.1 A1.2.2 1=A2 at *
 have a3:=numR_le A2.2.1 A2.2.2 1
 generalize numR A2.2.1 A2.2.2 1=A3 at *
 have b1:=numR_le A3.2.1 A3.2.2 6
 generalize numR A3.2.1 A3.2.2 6=B1 at *
 have b2:=numR_le B1.2.1 B1.2.2 6
 generalize numR B1.2.1 B1.2.2 6=B2 at *
 have b3:=numR_le B2.2.1 B2.2.2 6
 generalize numR B2.2.1 B2.2.2 6=B3 at *
 have c1:=textR_le B3.2.1 B3.2.2 16
 generalize textR B3.2.1 B3.2.2 16=C1 at *
 have c2:=textR_le C1.2.1 C1.2.2 16
 generalize textR C1.2.1 C1.2.2 16=C2 at *
 have c3:=textR_le C2.2.1 C2.2.2 200
 generalize textR C2.2.1 C2.2.2 200=C3 at *
 have d:=listR_all C3.2.1 C3.2.2 3 16
 generalize listR C3.2.1 C3.2.2 3 16=D at *
 refine ⟨?_,?_,?_,?_,fun t ht=>?_⟩
 ·show C1.1.size≤maxLen;unfold maxLen;omega
 ·show C2.1.size≤maxLen;unfold maxLen;omega
 ·show C3.1.size≤1000000;omega
 ·show D.1.length≤1000000;omega
 ·have:=d.1 t ht
  unfold maxLen
  omega
set_option maxHeartbeats 8000000 in
set_option maxRecDepth 100000 in
theorem unp_any (p:ByteArray) (w:World) (hp:p.size≤1000000):Calls Tryz.prog 139 #[.string p] w (UnpTo p w):=by
 obtain ⟨P,hP⟩:∃ P,P=w.heap.size:=⟨_,rfl⟩
 obtain ⟨R,hR⟩:∃ R,R=w.heap.size+1:=⟨_,rfl⟩
 obtain ⟨M,hM⟩:∃ M,M=w.heap.size+1+1:=⟨_,rfl⟩
 obtain ⟨W0,hW0⟩:∃ W,W=((w.alloc (.cells #[.int .i64 0,.int .i64 0,.int .i64 0,.int .i64 0,.int .i64 0,.int .i64 0,.string ⟨#[]⟩,.string ⟨#[]⟩,.string ⟨#[]⟩,.slice none 0 0] 36)).alloc (.cells #[.string p,.int .i64 0] 191)).alloc (.cells #[.int .i64 0,.int .i64 0,.int .i64 0,.int .i64 0,.int .i64 0,.int .i64 0,.string ⟨#[]⟩,.string ⟨#[]⟩,.string ⟨#[]⟩,.slice none 0 0] 36):=⟨_,rfl⟩
 have hu0:UI w W0 P R M zc p 0:=by
  have e1:(w.alloc (.cells zc 36)).heap.size=R:=by rw [World.size_alloc,hR]
  have e2:((w.alloc (.cells zc 36)).alloc (.cells #[.string p,.int .i64 0] 191)).heap.size=M:=by rw [World.size_alloc,World.size_alloc,hM]
  have b1:=Box.new w zc
  have b2:=Box.new ((w.alloc (.cells zc 36)).alloc (.cells #[.string p,.int .i64 0] 191)) zc
  rw [e2] at b2
  have r1:((w.alloc (.cells zc 36)).alloc (.cells #[.string p,.int .i64 0] 191)).heap[R]? = some (.cells #[.string p,.int .i64 0] 191):=by
   rw [←e1]
   exact heap_alloc_new _ _
  rw [hW0]
  refine ⟨?_,b2,?_,?_,by omega,by omega,by omega,by omega,by omega,by omega,by omega⟩
  ·exact (Below.heap_alloc _ (.cells zc 36) _ (Array.getElem?_eq_some_iff.1 r1).1).trans r1
  ·rw [hP]
   exact (b1.alloc _).alloc _
  ·exact (((Below.refl w.heap.size w).alloc (Nat.le_refl _) _).alloc (by simp only [World.size_alloc];omega) _).alloc (by simp only [World.size_alloc];omega) _
 have HU0:=Lib.hid hu0
 have HW0:=Lib.hid hW0
 have HPR:=Lib.hid (show w.heap.size=P∧w.heap.size+1=R∧w.heap.size+1+1=M from ⟨hP.symm,hR.symm,hM.symm⟩)
 have HSO:=Lib.hid (unp_sound p hp)
 obtain ⟨u,hu⟩:∃ u,unpS p=u:=⟨_,rfl⟩
 have HUU:=Lib.hid hu
 unfold unpS at hu
 simp only at hu
 obtain ⟨va1,sa1,xa1,ha1⟩:∃ v s x,numR p 0 1=(v,s,x):=⟨_,_,_,rfl⟩
 rw [ha1] at hu
 simp only at hu
 have Ha1:=Lib.hid ha1
 clear ha1
 obtain ⟨va2,sa2,xa2,ha2⟩:∃ v s x,numR sa1 xa1 1=(v,s,x):=⟨_,_,_,rfl⟩
 rw [ha2] at hu
 simp only at hu
 have Ha2:=Lib.hid ha2
 clear ha2
 obtain ⟨va3,sa3,xa3,ha3⟩:∃ v s x,numR sa2 xa2 1=(v,s,x):=⟨_,_,_,rfl⟩
 rw [ha3] at hu
 simp only at hu
 have Ha3:=Lib.hid ha3
 clear ha3
 obtain ⟨vb1,sb1,xb1,hb1⟩:∃ v s x,numR sa3 xa3 6=(v,s,x):=⟨_,_,_,rfl⟩
 rw [hb1] at hu
 simp only at hu
 have Hb1:=Lib.hid hb1
 clear hb1
 obtain ⟨vb2,sb2,xb2,hb2⟩:∃ v s x,numR sb1 xb1 6=(v,s,x):=⟨_,_,_,rfl⟩
 rw [hb2] at hu
 simp only at hu
 have Hb2:=Lib.hid hb2
 clear hb2
 obtain ⟨vb3,sb3,xb3,hb3⟩:∃ v s x,numR sb2 xb2 6=(v,s,x):=⟨_,_,_,rfl⟩
 rw [hb3] at hu
 simp only at hu
 have Hb3:=Lib.hid hb3
 clear hb3
 obtain ⟨vc1,sc1,xc1,hc1⟩:∃ v s x,textR sb3 xb3 16=(v,s,x):=⟨_,_,_,rfl⟩
 rw [hc1] at hu
 simp only at hu
 have Hc1:=Lib.hid hc1
 clear hc1
 obtain ⟨vc2,sc2,xc2,hc2⟩:∃ v s x,textR sc1 xc1 16=(v,s,x):=⟨_,_,_,rfl⟩
 rw [hc2] at hu
 simp only at hu
 have Hc2:=Lib.hid hc2
 clear hc2
 obtain ⟨vc3,sc3,xc3,hc3⟩:∃ v s x,textR sc2 xc2 200=(v,s,x):=⟨_,_,_,rfl⟩
 rw [hc3] at hu
 simp only at hu
 have Hc3:=Lib.hid hc3
 clear hc3
 obtain ⟨vd,sd,xd,hd⟩:∃ v s x,listR sc3 xc3 3 16=(v,s,x):=⟨_,_,_,rfl⟩
 rw [hd] at hu
 simp only at hu
 have Hd:=Lib.hid hd
 clear hd
 have HUE:=Lib.hid hu
 clear hu hu0 hW0 hP hR hM hp
 go_enter Tryz.func139,Tryz.ntmps139
 go_wp2_with fail
 refine (Oc.new_any p _).mono ?_
 rintro e w1 ⟨rfl,rfl⟩
 go_wp2_with fail
 rw [←HW0.out]
 rw [HPR.out.2.2,HPR.out.2.1]
 refine (num_at HU0.out Ha1.out).mono ?_
 rintro e w2 ⟨rfl,hu⟩
 have HU2:=Lib.hid hu
 clear hu
 go_wp2_with fail
 refine (num_at HU2.out Ha2.out).mono ?_
 rintro e w3 ⟨rfl,hu⟩
 have HU3:=Lib.hid hu
 clear hu
 go_wp2_with fail
 refine (num_at HU3.out Ha3.out).mono ?_
 rintro e w4 ⟨rfl,hu⟩
 have HU4:=Lib.hid hu
 have hcm:=hu.box.cell
 have hfm:=hu.box.free
 simp only [zc] at hcm
 clear hu
 go_wp2_with fail
 obtain ⟨w5,hw5⟩:∃ W,W=(((w4).setCell ⟨M,0,none⟩ (.int .i64 va1)).setCell ⟨M,1,none⟩ (.int .i64 va2)).setCell ⟨M,3,none⟩ (.int .i64 va3):=⟨_,rfl⟩
 rw [←hw5]
 have hu:UI w w5 P R M #[.int .i64 va1,.int .i64 va2,.int .i64 0,.int .i64 va3,.int .i64 0,.int .i64 0,.string ⟨#[]⟩,.string ⟨#[]⟩,.string ⟨#[]⟩,.slice none 0 0] _ _:=hw5▸(((HU4.out).set 0 (.int .i64 va1)).set 1 (.int .i64 va2)).set 3 (.int .i64 va3)
 have HU5:=Lib.hid hu
 clear hu hw5 hcm hfm
 refine (num_at HU5.out Hb1.out).mono ?_
 rintro e w6 ⟨rfl,hu⟩
 have HU6:=Lib.hid hu
 clear hu
 go_wp2_with fail
 refine (num_at HU6.out Hb2.out).mono ?_
 rintro e w7 ⟨rfl,hu⟩
 have HU7:=Lib.hid hu
 clear hu
 go_wp2_with fail
 refine (num_at HU7.out Hb3.out).mono ?_
 rintro e w8 ⟨rfl,hu⟩
 have HU8:=Lib.hid hu
 have hcm:=hu.box.cell
 have hfm:=hu.box.free
 clear hu
 go_wp2_with fail
 obtain ⟨w9,hw9⟩:∃ W,W=(((w8).setCell ⟨M,5,none⟩ (.int .i64 vb1)).setCell ⟨M,2,none⟩ (.int .i64 vb2)).setCell ⟨M,4,none⟩ (.int .i64 vb3):=⟨_,rfl⟩
 rw [←hw9]
 have hu:UI w w9 P R M #[.int .i64 va1,.int .i64 va2,.int .i64 vb2,.int .i64 va3,.int .i64 vb3,.int .i64 vb1,.string ⟨#[]⟩,.string ⟨#[]⟩,.string ⟨#[]⟩,.slice none 0 0] _ _:=hw9▸(((HU8.out).set 5 (.int .i64 vb1)).set 2 (.int .i64 vb2)).set 4 (.int .i64 vb3)
 have HU9:=Lib.hid hu
 clear hu hw9 hcm hfm
 refine (text_at HU9.out Hc1.out).mono ?_
 rintro e w10 ⟨rfl,hu⟩
 have HU10:=Lib.hid hu
 clear hu
 go_wp2_with fail
 refine (text_at HU10.out Hc2.out).mono ?_
 rintro e w11 ⟨rfl,hu⟩
 have HU11:=Lib.hid hu
 clear hu
 go_wp2_with fail
 refine (text_at HU11.out Hc3.out).mono ?_
 rintro e w12 ⟨rfl,hu⟩
 have HU12:=Lib.hid hu
 have hcm:=hu.box.cell
 have hfm:=hu.box.free
 clear hu
 go_wp2_with fail
 obtain ⟨w13,hw13⟩:∃ W,W=(((w12).setCell ⟨M,6,none⟩ (.string vc1)).setCell ⟨M,7,none⟩ (.string vc2)).setCell ⟨M,8,none⟩ (.string vc3):=⟨_,rfl⟩
 rw [←hw13]
 have hu:UI w w13 P R M #[.int .i64 va1,.int .i64 va2,.int .i64 vb2,.int .i64 va3,.int .i64 vb3,.int .i64 vb1,.string vc1,.string vc2,.string vc3,.slice none 0 0] _ _:=hw13▸(((HU12.out).set 6 (.string vc1)).set 7 (.string vc2)).set 8 (.string vc3)
 have HU13:=Lib.hid hu
 clear hu hw13 hcm hfm
 refine (list_at HU13.out Hd.out).mono ?_
 rintro e wl ⟨vk,rfl,hu,hst,hcp⟩
 obtain ⟨ka,kc,hvk⟩:=hst.form
 have HUL:=Lib.hid hu
 have HST:=Lib.hid hst
 have HCP:=Lib.hid hcp
 have hcm:=hu.box.cell
 have hfm:=hu.box.free
 clear hu hst hcp
 have hlen:vd.length≤256:=by
  have:=(listR_all sc3 xc3 3 16).2
  rw [Hd.out] at this
  exact this
 subst hvk
 by_cases hl0:vd.length=0
 ·obtain rfl:vd=[]:=List.length_eq_zero_iff.1 hl0
  have HSTR:Hid (Strs wl (M+1) (.slice none 0 0) []):=Lib.hid ⟨none,0,rfl,.inl rfl⟩
  have HCAP:Hid (CapOk (.slice none 0 0)):=Lib.hid ⟨none,0,0,rfl,Nat.le_refl _⟩
  have HZERO:=Lib.hid HUL.out.zero
  have HBEL:=Lib.hid HUL.out.bel
  have HLT:=Lib.hid HUL.out.pl
  have hzm:=HZERO.out.cell
  have hzf:=HZERO.out.free
  rw [←HPR.out.1] at hzm hzf
  simp only [zc] at hzm
  have hcm:=HUL.out.box.cell
  have HEN:=Lib.hid (Oc.end_any R sd xd wl HUL.out.rd)
  have HUQ:Hid (unpS p=⟨⟨va1,va2,vb2,va3,vb3,vb1,vc1,vc2,vc3,[]⟩,sd,xd⟩):=Lib.hid (by rw [HUU.out,←HUE.out])
  by_cases he:Oc.endE sd xd=0
  ·have he1:(Oc.endE sd xd != 0)=false:=by rw [he];rfl
   have HE:=Lib.hid he
   clear he
   by_cases hk:va1=0
   ·have hk1:((va1:Int) == 0)=true:=by rw [hk];rfl
    have HB:Hid (unpB p=false):=Lib.hid (by
     unfold unpB
     rw [HUQ.out]
     show (_ && (decide (((va1:Nat):Int)≠0) && _))=false
     rw [hk]
     simp)
    clear hk
    go_wp2_with fail
    refine HEN.out.mono ?_
    rintro e wm ⟨rfl,rfl⟩
    go_wp2_with fail
    obtain ⟨W,hW⟩:∃ W,W=set10 wl w.heap.size (.int .i64 0) (.int .i64 0) (.int .i64 0) (.int .i64 0) (.int .i64 0) (.int .i64 0) (.string ⟨#[]⟩) (.string ⟨#[]⟩) (.string ⟨#[]⟩) (.slice none 0 0):=⟨_,rfl⟩
    have hbx:Box W w.heap.size #[.int .i64 0,.int .i64 0,.int .i64 0,.int .i64 0,.int .i64 0,.int .i64 0,.string ⟨#[]⟩,.string ⟨#[]⟩,.string ⟨#[]⟩,.slice none 0 0]:=by rw [hW];exact box_set10 (HPR.out.1▸HZERO.out) (.int .i64 0) (.int .i64 0) (.int .i64 0) (.int .i64 0) (.int .i64 0) (.int .i64 0) (.string ⟨#[]⟩) (.string ⟨#[]⟩) (.string ⟨#[]⟩) (.slice none 0 0)
    have hbl:Below w.heap.size w W:=by rw [hW];exact below_set10 HBEL.out (Nat.le_refl _) (.int .i64 0) (.int .i64 0) (.int .i64 0) (.int .i64 0) (.int .i64 0) (.int .i64 0) (.string ⟨#[]⟩) (.string ⟨#[]⟩) (.string ⟨#[]⟩) (.slice none 0 0)
    unfold set10 at hW
    rw [←hW]
    have hpm:=Box.cell hbx
    exact bodyPost_ret (v:=.tuple #[zeroM.val (.slice none 0 0),.bool false]) (by simp [results,Tryz.results139,go_sem,hpm,zeroM,MsgM.val,MsgM.cells]) rfl ⟨zeroM,.slice none 0 0,by (rw [HB.out])<;>rfl,⟨none,0,rfl,.inl rfl⟩,⟨none,0,0,rfl,Nat.le_refl _⟩,by rw [HB.out];rfl,hbl⟩
   ·have hk1:((va1:Int) == 0)=false:=by simpa using hk
    have HK:=Lib.hid hk
    clear hk
    obtain ⟨z,hz⟩:∃ z,rightB ⟨va1,va2,vb2,va3,vb3,vb1,vc1,vc2,vc3,[]⟩=z:=⟨_,rfl⟩
    have hso:=HSO.out
    rw [HUQ.out] at hso
    have HR:=Lib.hid (right_any ⟨va1,va2,vb2,va3,vb3,vb1,vc1,vc2,vc3,[]⟩ (.slice none 0 0) z wl HSTR.out.zero HCAP.out hso hz)
    have HB:Hid (unpB p=z):=Lib.hid (by
     unfold unpB
     rw [HUQ.out]
     show (decide (Oc.endE sd xd=0) && (decide (((va1:Nat):Int)≠0) && rightB _))=z
     rw [hz,HE.out]
     have:((va1:Nat):Int)≠0:=by have:=HK.out;omega
     rw [decide_eq_true this]
     simp)
    clear hz hso
    unfold MsgM.val MsgM.cells at HR
    cases z
    ·go_wp2_with fail
     refine HEN.out.mono ?_
     rintro e wm ⟨rfl,rfl⟩
     go_wp2_with fail
     refine HR.out.mono ?_
     rintro e wn ⟨rfl,hb⟩
     have HZ2:=Lib.hid (HZERO.out.below hb HZERO.out.lt)
     have HBE2:=Lib.hid (HBEL.out.trans (hb.mono HBEL.out.size))
     have hzm2:=HZ2.out.cell
     have hzf2:=HZ2.out.free
     rw [←HPR.out.1] at hzm2 hzf2
     simp only [zc] at hzm2
     clear hb hzm hzf hcm
     go_wp2_with fail
     obtain ⟨W,hW⟩:∃ W,W=set10 wn w.heap.size (.int .i64 0) (.int .i64 0) (.int .i64 0) (.int .i64 0) (.int .i64 0) (.int .i64 0) (.string ⟨#[]⟩) (.string ⟨#[]⟩) (.string ⟨#[]⟩) (.slice none 0 0):=⟨_,rfl⟩
     have hbx:Box W w.heap.size #[.int .i64 0,.int .i64 0,.int .i64 0,.int .i64 0,.int .i64 0,.int .i64 0,.string ⟨#[]⟩,.string ⟨#[]⟩,.string ⟨#[]⟩,.slice none 0 0]:=by rw [hW];exact box_set10 (HPR.out.1▸HZ2.out) (.int .i64 0) (.int .i64 0) (.int .i64 0) (.int .i64 0) (.int .i64 0) (.int .i64 0) (.string ⟨#[]⟩) (.string ⟨#[]⟩) (.string ⟨#[]⟩) (.slice none 0 0)
     have hbl:Below w.heap.size w W:=by rw [hW];exact below_set10 HBE2.out (Nat.le_refl _) (.int .i64 0) (.int .i64 0) (.int .i64 0) (.int .i64 0) (.int .i64 0) (.int .i64 0) (.string ⟨#[]⟩) (.string ⟨#[]⟩) (.string ⟨#[]⟩) (.slice none 0 0)
     unfold set10 at hW
     rw [←hW]
     have hpm:=Box.cell hbx
     exact bodyPost_ret (v:=.tuple #[zeroM.val (.slice none 0 0),.bool false]) (by simp [results,Tryz.results139,go_sem,hpm,zeroM,MsgM.val,MsgM.cells]) rfl ⟨zeroM,.slice none 0 0,by (rw [HB.out])<;>rfl,⟨none,0,rfl,.inl rfl⟩,⟨none,0,0,rfl,Nat.le_refl _⟩,by rw [HB.out];rfl,hbl⟩
    ·go_wp2_with fail
     refine HEN.out.mono ?_
     rintro e wm ⟨rfl,rfl⟩
     go_wp2_with fail
     refine HR.out.mono ?_
     rintro e wn ⟨rfl,hb⟩
     have HZ2:=Lib.hid (HZERO.out.below hb HZERO.out.lt)
     have HBE2:=Lib.hid (HBEL.out.trans (hb.mono HBEL.out.size))
     have hzm2:=HZ2.out.cell
     have hzf2:=HZ2.out.free
     rw [←HPR.out.1] at hzm2 hzf2
     simp only [zc] at hzm2
     have hcm2:=(HUL.out.box.below hb HUL.out.box.lt).cell
     have HSTR2:Hid (Strs wn (M+1) (.slice none 0 0) []):=Lib.hid (HSTR.out.below hb (Nat.le_refl _))
     clear hb hzm hzf hcm
     go_wp2_with fail
     obtain ⟨W,hW⟩:∃ W,W=set10 wn w.heap.size (.int .i64 va1) (.int .i64 va2) (.int .i64 vb2) (.int .i64 va3) (.int .i64 vb3) (.int .i64 vb1) (.string vc1) (.string vc2) (.string vc3) (.slice none 0 0):=⟨_,rfl⟩
     have hbx:Box W w.heap.size #[.int .i64 va1,.int .i64 va2,.int .i64 vb2,.int .i64 va3,.int .i64 vb3,.int .i64 vb1,.string vc1,.string vc2,.string vc3,.slice none 0 0]:=by rw [hW];exact box_set10 (HPR.out.1▸HZ2.out) (.int .i64 va1) (.int .i64 va2) (.int .i64 vb2) (.int .i64 va3) (.int .i64 vb3) (.int .i64 vb1) (.string vc1) (.string vc2) (.string vc3) (.slice none 0 0)
     have hbl:Below w.heap.size w W:=by rw [hW];exact below_set10 HBE2.out (Nat.le_refl _) (.int .i64 va1) (.int .i64 va2) (.int .i64 vb2) (.int .i64 va3) (.int .i64 vb3) (.int .i64 vb1) (.string vc1) (.string vc2) (.string vc3) (.slice none 0 0)
     have hst:Strs W (M+1) (.slice none 0 0) []:=by rw [hW];exact strs_set10 HSTR2.out (by have:=HLT.out;have:=HPR.out;omega) (.int .i64 va1) (.int .i64 va2) (.int .i64 vb2) (.int .i64 va3) (.int .i64 vb3) (.int .i64 vb1) (.string vc1) (.string vc2) (.string vc3) (.slice none 0 0)
     unfold set10 at hW
     rw [←hW]
     have hpm:=Box.cell hbx
     exact bodyPost_ret (v:=.tuple #[MsgM.val ⟨va1,va2,vb2,va3,vb3,vb1,vc1,vc2,vc3,[]⟩ (.slice none 0 0),.bool true]) (by simp [results,Tryz.results139,go_sem,hpm,MsgM.val,MsgM.cells]) rfl ⟨_,_,by rw [HB.out],strs_low hst (by have:=HLT.out;have:=HPR.out;omega),HCAP.out,by rw [HB.out,if_pos rfl,HUU.out,←HUE.out],hbl⟩
  ·have he1:(Oc.endE sd xd != 0)=true:=by simpa using he
   have HB:Hid (unpB p=false):=Lib.hid (by
    unfold unpB
    rw [HUQ.out]
    show (decide (Oc.endE sd xd=0) && _)=false
    rw [decide_eq_false he]
    rfl)
   clear he
   go_wp2_with fail
   refine HEN.out.mono ?_
   rintro e wm ⟨rfl,rfl⟩
   go_wp2_with fail
   obtain ⟨W,hW⟩:∃ W,W=set10 wl w.heap.size (.int .i64 0) (.int .i64 0) (.int .i64 0) (.int .i64 0) (.int .i64 0) (.int .i64 0) (.string ⟨#[]⟩) (.string ⟨#[]⟩) (.string ⟨#[]⟩) (.slice none 0 0):=⟨_,rfl⟩
   have hbx:Box W w.heap.size #[.int .i64 0,.int .i64 0,.int .i64 0,.int .i64 0,.int .i64 0,.int .i64 0,.string ⟨#[]⟩,.string ⟨#[]⟩,.string ⟨#[]⟩,.slice none 0 0]:=by rw [hW];exact box_set10 (HPR.out.1▸HZERO.out) (.int .i64 0) (.int .i64 0) (.int .i64 0) (.int .i64 0) (.int .i64 0) (.int .i64 0) (.string ⟨#[]⟩) (.string ⟨#[]⟩) (.string ⟨#[]⟩) (.slice none 0 0)
   have hbl:Below w.heap.size w W:=by rw [hW];exact below_set10 HBEL.out (Nat.le_refl _) (.int .i64 0) (.int .i64 0) (.int .i64 0) (.int .i64 0) (.int .i64 0) (.int .i64 0) (.string ⟨#[]⟩) (.string ⟨#[]⟩) (.string ⟨#[]⟩) (.slice none 0 0)
   unfold set10 at hW
   rw [←hW]
   have hpm:=Box.cell hbx
   exact bodyPost_ret (v:=.tuple #[zeroM.val (.slice none 0 0),.bool false]) (by simp [results,Tryz.results139,go_sem,hpm,zeroM,MsgM.val,MsgM.cells]) rfl ⟨zeroM,.slice none 0 0,by (rw [HB.out])<;>rfl,⟨none,0,rfl,.inl rfl⟩,⟨none,0,0,rfl,Nat.le_refl _⟩,by rw [HB.out];rfl,hbl⟩
 ·have hl1:0<vd.length:=by omega
  obtain ⟨nl,hnl⟩:∃ nl,nl=vd.length:=⟨_,rfl⟩
  rw [←hnl] at hl1 hlen hl0 HST HCP ⊢
  have HNL:=Lib.hid hnl
  clear hnl hl0
  obtain ⟨wq,hwq⟩:∃ W,W=wl.setCell ⟨M,9,none⟩ (.slice ka nl kc):=⟨_,rfl⟩
  have huq:UI w wq P R M #[.int .i64 va1,.int .i64 va2,.int .i64 vb2,.int .i64 va3,.int .i64 vb3,.int .i64 vb1,.string vc1,.string vc2,.string vc3,.slice ka nl kc] sd xd:=hwq▸HUL.out.set 9 (.slice ka nl kc)
  have HUQ2:=Lib.hid huq
  have HSTR:Hid (Strs wq (M+1) (.slice ka nl kc) vd):=Lib.hid (hwq▸strs_set HST.out (Nat.lt_succ_self _) 9 _)
  have HWQ:=Lib.hid hwq
  have HCAP:=Lib.hid HCP.out
  clear huq hwq
  have HZERO:=Lib.hid HUQ2.out.zero
  have HBEL:=Lib.hid HUQ2.out.bel
  have HLT:=Lib.hid HUQ2.out.pl
  have hzm:=HZERO.out.cell
  have hzf:=HZERO.out.free
  rw [←HPR.out.1] at hzm hzf
  simp only [zc] at hzm
  have hcm9:=HUL.out.box.cell
  have hfm9:=HUL.out.box.free
  have hcm:=HUQ2.out.box.cell
  have HEN:=Lib.hid (Oc.end_any R sd xd wq HUQ2.out.rd)
  have HUQ:Hid (unpS p=⟨⟨va1,va2,vb2,va3,vb3,vb1,vc1,vc2,vc3,vd⟩,sd,xd⟩):=Lib.hid (by rw [HUU.out,←HUE.out])
  by_cases he:Oc.endE sd xd=0
  ·have he1:(Oc.endE sd xd != 0)=false:=by rw [he];rfl
   have HE:=Lib.hid he
   clear he
   by_cases hk:va1=0
   ·have hk1:((va1:Int) == 0)=true:=by rw [hk];rfl
    have HB:Hid (unpB p=false):=Lib.hid (by
     unfold unpB
     rw [HUQ.out]
     show (_ && (decide (((va1:Nat):Int)≠0) && _))=false
     rw [hk]
     simp)
    clear hk
    go_wp2_with fail
    rw [←HWQ.out]
    refine HEN.out.mono ?_
    rintro e wm ⟨rfl,rfl⟩
    go_wp2_with fail
    obtain ⟨W,hW⟩:∃ W,W=set10 wq w.heap.size (.int .i64 0) (.int .i64 0) (.int .i64 0) (.int .i64 0) (.int .i64 0) (.int .i64 0) (.string ⟨#[]⟩) (.string ⟨#[]⟩) (.string ⟨#[]⟩) (.slice none 0 0):=⟨_,rfl⟩
    have hbx:Box W w.heap.size #[.int .i64 0,.int .i64 0,.int .i64 0,.int .i64 0,.int .i64 0,.int .i64 0,.string ⟨#[]⟩,.string ⟨#[]⟩,.string ⟨#[]⟩,.slice none 0 0]:=by rw [hW];exact box_set10 (HPR.out.1▸HZERO.out) (.int .i64 0) (.int .i64 0) (.int .i64 0) (.int .i64 0) (.int .i64 0) (.int .i64 0) (.string ⟨#[]⟩) (.string ⟨#[]⟩) (.string ⟨#[]⟩) (.slice none 0 0)
    have hbl:Below w.heap.size w W:=by rw [hW];exact below_set10 HBEL.out (Nat.le_refl _) (.int .i64 0) (.int .i64 0) (.int .i64 0) (.int .i64 0) (.int .i64 0) (.int .i64 0) (.string ⟨#[]⟩) (.string ⟨#[]⟩) (.string ⟨#[]⟩) (.slice none 0 0)
    unfold set10 at hW
    rw [←hW]
    have hpm:=Box.cell hbx
    exact bodyPost_ret (v:=.tuple #[zeroM.val (.slice none 0 0),.bool false]) (by simp [results,Tryz.results139,go_sem,hpm,zeroM,MsgM.val,MsgM.cells]) rfl ⟨zeroM,.slice none 0 0,by (rw [HB.out])<;>rfl,⟨none,0,rfl,.inl rfl⟩,⟨none,0,0,rfl,Nat.le_refl _⟩,by rw [HB.out];rfl,hbl⟩
   ·have hk1:((va1:Int) == 0)=false:=by simpa using hk
    have HK:=Lib.hid hk
    clear hk
    obtain ⟨z,hz⟩:∃ z,rightB ⟨va1,va2,vb2,va3,vb3,vb1,vc1,vc2,vc3,vd⟩=z:=⟨_,rfl⟩
    have hso:=HSO.out
    rw [HUQ.out] at hso
    have HR:=Lib.hid (right_any ⟨va1,va2,vb2,va3,vb3,vb1,vc1,vc2,vc3,vd⟩ (.slice ka nl kc) z wq HSTR.out.zero HCAP.out hso hz)
    have HB:Hid (unpB p=z):=Lib.hid (by
     unfold unpB
     rw [HUQ.out]
     show (decide (Oc.endE sd xd=0) && (decide (((va1:Nat):Int)≠0) && rightB _))=z
     rw [hz,HE.out]
     have:((va1:Nat):Int)≠0:=by have:=HK.out;omega
     rw [decide_eq_true this]
     simp)
    clear hz hso
    unfold MsgM.val MsgM.cells at HR
    cases z
    ·go_wp2_with fail
     rw [←HWQ.out]
     refine HEN.out.mono ?_
     rintro e wm ⟨rfl,rfl⟩
     go_wp2_with fail
     refine HR.out.mono ?_
     rintro e wn ⟨rfl,hb⟩
     have HZ2:=Lib.hid (HZERO.out.below hb HZERO.out.lt)
     have HBE2:=Lib.hid (HBEL.out.trans (hb.mono HBEL.out.size))
     have hzm2:=HZ2.out.cell
     have hzf2:=HZ2.out.free
     rw [←HPR.out.1] at hzm2 hzf2
     simp only [zc] at hzm2
     clear hb hzm hzf hcm
     go_wp2_with fail
     obtain ⟨W,hW⟩:∃ W,W=set10 wn w.heap.size (.int .i64 0) (.int .i64 0) (.int .i64 0) (.int .i64 0) (.int .i64 0) (.int .i64 0) (.string ⟨#[]⟩) (.string ⟨#[]⟩) (.string ⟨#[]⟩) (.slice none 0 0):=⟨_,rfl⟩
     have hbx:Box W w.heap.size #[.int .i64 0,.int .i64 0,.int .i64 0,.int .i64 0,.int .i64 0,.int .i64 0,.string ⟨#[]⟩,.string ⟨#[]⟩,.string ⟨#[]⟩,.slice none 0 0]:=by rw [hW];exact box_set10 (HPR.out.1▸HZ2.out) (.int .i64 0) (.int .i64 0) (.int .i64 0) (.int .i64 0) (.int .i64 0) (.int .i64 0) (.string ⟨#[]⟩) (.string ⟨#[]⟩) (.string ⟨#[]⟩) (.slice none 0 0)
     have hbl:Below w.heap.size w W:=by rw [hW];exact below_set10 HBE2.out (Nat.le_refl _) (.int .i64 0) (.int .i64 0) (.int .i64 0) (.int .i64 0) (.int .i64 0) (.int .i64 0) (.string ⟨#[]⟩) (.string ⟨#[]⟩) (.string ⟨#[]⟩) (.slice none 0 0)
     unfold set10 at hW
     rw [←hW]
     have hpm:=Box.cell hbx
     exact bodyPost_ret (v:=.tuple #[zeroM.val (.slice none 0 0),.bool false]) (by simp [results,Tryz.results139,go_sem,hpm,zeroM,MsgM.val,MsgM.cells]) rfl ⟨zeroM,.slice none 0 0,by (rw [HB.out])<;>rfl,⟨none,0,rfl,.inl rfl⟩,⟨none,0,0,rfl,Nat.le_refl _⟩,by rw [HB.out];rfl,hbl⟩
    ·go_wp2_with fail
     rw [←HWQ.out]
     refine HEN.out.mono ?_
     rintro e wm ⟨rfl,rfl⟩
     go_wp2_with fail
     refine HR.out.mono ?_
     rintro e wn ⟨rfl,hb⟩
     have HZ2:=Lib.hid (HZERO.out.below hb HZERO.out.lt)
     have HBE2:=Lib.hid (HBEL.out.trans (hb.mono HBEL.out.size))
     have hzm2:=HZ2.out.cell
     have hzf2:=HZ2.out.free
     rw [←HPR.out.1] at hzm2 hzf2
     simp only [zc] at hzm2
     have hcm2:=(HUQ2.out.box.below hb HUQ2.out.box.lt).cell
     have HSTR2:Hid (Strs wn (M+1) (.slice ka nl kc) vd):=Lib.hid (HSTR.out.below hb (Nat.le_refl _))
     clear hb hzm hzf hcm
     go_wp2_with fail
     obtain ⟨W,hW⟩:∃ W,W=set10 wn w.heap.size (.int .i64 va1) (.int .i64 va2) (.int .i64 vb2) (.int .i64 va3) (.int .i64 vb3) (.int .i64 vb1) (.string vc1) (.string vc2) (.string vc3) (.slice ka nl kc):=⟨_,rfl⟩
     have hbx:Box W w.heap.size #[.int .i64 va1,.int .i64 va2,.int .i64 vb2,.int .i64 va3,.int .i64 vb3,.int .i64 vb1,.string vc1,.string vc2,.string vc3,.slice ka nl kc]:=by rw [hW];exact box_set10 (HPR.out.1▸HZ2.out) (.int .i64 va1) (.int .i64 va2) (.int .i64 vb2) (.int .i64 va3) (.int .i64 vb3) (.int .i64 vb1) (.string vc1) (.string vc2) (.string vc3) (.slice ka nl kc)
     have hbl:Below w.heap.size w W:=by rw [hW];exact below_set10 HBE2.out (Nat.le_refl _) (.int .i64 va1) (.int .i64 va2) (.int .i64 vb2) (.int .i64 va3) (.int .i64 vb3) (.int .i64 vb1) (.string vc1) (.string vc2) (.string vc3) (.slice ka nl kc)
     have hst:Strs W (M+1) (.slice ka nl kc) vd:=by rw [hW];exact strs_set10 HSTR2.out (by have:=HLT.out;have:=HPR.out;omega) (.int .i64 va1) (.int .i64 va2) (.int .i64 vb2) (.int .i64 va3) (.int .i64 vb3) (.int .i64 vb1) (.string vc1) (.string vc2) (.string vc3) (.slice ka nl kc)
     unfold set10 at hW
     rw [←hW]
     have hpm:=Box.cell hbx
     exact bodyPost_ret (v:=.tuple #[MsgM.val ⟨va1,va2,vb2,va3,vb3,vb1,vc1,vc2,vc3,vd⟩ (.slice ka nl kc),.bool true]) (by simp [results,Tryz.results139,go_sem,hpm,MsgM.val,MsgM.cells]) rfl ⟨_,_,by rw [HB.out],strs_low hst (by have:=HLT.out;have:=HPR.out;omega),HCAP.out,by rw [HB.out,if_pos rfl,HUU.out,←HUE.out],hbl⟩
  ·have he1:(Oc.endE sd xd != 0)=true:=by simpa using he
   have HB:Hid (unpB p=false):=Lib.hid (by
    unfold unpB
    rw [HUQ.out]
    show (decide (Oc.endE sd xd=0) && _)=false
    rw [decide_eq_false he]
    rfl)
   clear he
   go_wp2_with fail
   rw [←HWQ.out]
   refine HEN.out.mono ?_
   rintro e wm ⟨rfl,rfl⟩
   go_wp2_with fail
   obtain ⟨W,hW⟩:∃ W,W=set10 wq w.heap.size (.int .i64 0) (.int .i64 0) (.int .i64 0) (.int .i64 0) (.int .i64 0) (.int .i64 0) (.string ⟨#[]⟩) (.string ⟨#[]⟩) (.string ⟨#[]⟩) (.slice none 0 0):=⟨_,rfl⟩
   have hbx:Box W w.heap.size #[.int .i64 0,.int .i64 0,.int .i64 0,.int .i64 0,.int .i64 0,.int .i64 0,.string ⟨#[]⟩,.string ⟨#[]⟩,.string ⟨#[]⟩,.slice none 0 0]:=by rw [hW];exact box_set10 (HPR.out.1▸HZERO.out) (.int .i64 0) (.int .i64 0) (.int .i64 0) (.int .i64 0) (.int .i64 0) (.int .i64 0) (.string ⟨#[]⟩) (.string ⟨#[]⟩) (.string ⟨#[]⟩) (.slice none 0 0)
   have hbl:Below w.heap.size w W:=by rw [hW];exact below_set10 HBEL.out (Nat.le_refl _) (.int .i64 0) (.int .i64 0) (.int .i64 0) (.int .i64 0) (.int .i64 0) (.int .i64 0) (.string ⟨#[]⟩) (.string ⟨#[]⟩) (.string ⟨#[]⟩) (.slice none 0 0)
   unfold set10 at hW
   rw [←hW]
   have hpm:=Box.cell hbx
   exact bodyPost_ret (v:=.tuple #[zeroM.val (.slice none 0 0),.bool false]) (by simp [results,Tryz.results139,go_sem,hpm,zeroM,MsgM.val,MsgM.cells]) rfl ⟨zeroM,.slice none 0 0,by (rw [HB.out])<;>rfl,⟨none,0,rfl,.inl rfl⟩,⟨none,0,0,rfl,Nat.le_refl _⟩,by rw [HB.out];rfl,hbl⟩
abbrev fH:ByteArray:=⟨#[90]⟩
abbrev rH:ByteArray:=⟨#[165]⟩
theorem hasP_any (s h:ByteArray) (x:Bool) (w:World) (hs:s.size≤maxLen) (hh:h.size≤maxLen) (hx:hasB s h=x):Calls Tryz.prog 162 #[.string s,.string h] w fun e w'=>e = .returned (.bool x)∧w=w':=by
 have HP:=Lib.hid (hasPrefix_any s h w hs hh)
 rw [hx] at HP
 clear hx
 go_enter Tryz.func162,Tryz.ntmps162
 go_wp2_with (go_at_call 198;refine HP.out.mono ?_;rintro e w1 ⟨rfl,rfl⟩)
 go_ret
 exact ⟨rfl,rfl⟩
theorem isF_any (s:ByteArray) (x:Bool) (w:World) (hs:s.size≤maxLen) (hx:hasB s fH=x):Calls Tryz.prog 135 #[.string s] w fun e w'=>e = .returned (.bool x)∧w=w':=by
 have HP:=Lib.hid (hasP_any s fH x w hs (by unfold maxLen;decide) hx)
 clear hx
 go_enter Tryz.func135,Tryz.ntmps135
 go_wp2_with (go_at_call 162;refine HP.out.mono ?_;rintro e w1 ⟨rfl,rfl⟩)
 go_ret
 exact ⟨rfl,rfl⟩
theorem isR_any (s:ByteArray) (x:Bool) (w:World) (hs:s.size≤maxLen) (hx:hasB s rH=x):Calls Tryz.prog 136 #[.string s] w fun e w'=>e = .returned (.bool x)∧w=w':=by
 have HP:=Lib.hid (hasP_any s rH x w hs (by unfold maxLen;decide) hx)
 clear hx
 go_enter Tryz.func136,Tryz.ntmps136
 go_wp2_with (go_at_call 162;refine HP.out.mono ?_;rintro e w1 ⟨rfl,rfl⟩)
 go_ret
 exact ⟨rfl,rfl⟩
def toldN (s:ByteArray):Nat:=(Oc.numS (s.extract 1 s.size) 2).1
def lenS (s:ByteArray):Int×Int:=
 if s.toList.isEmpty=false∧hasB s fH=false∧hasB s rH=false then (0,4)
 else if s.size<3 then (0,3)
 else if toldN s<3∨(hasB s fH=true∧1024<toldN s) then (0,4)
 else if s.size<toldN s then (0,3)
 else ((toldN s:Int),0)
theorem length_any (s:ByteArray) (n x:Int) (w:World) (hs:s.size≤maxLen) (hl:lenS s=(n,x)):Calls Tryz.prog 91 #[.string s] w fun e w'=>e = .returned (.tuple #[.int .i64 n,.int .i64 x])∧Below w.heap.size w w':=by
 obtain ⟨zf,hf⟩:∃ z,hasB s fH=z:=⟨_,rfl⟩
 obtain ⟨zr,hr⟩:∃ z,hasB s rH=z:=⟨_,rfl⟩
 unfold lenS at hl
 rw [hf,hr] at hl
 have HF:=Lib.hid fun W=>isF_any s zf W hs hf
 have HR:=Lib.hid fun W=>isR_any s zr W hs hr
 have hsI:(s.size:Int)≤9223372036854775807:=by unfold maxLen at hs;omega
 clear hf hr hs
 have finish:∀ (hne:¬ (s.toList.isEmpty=false∧zf=false∧zr=false)),Calls Tryz.prog 91 #[.string s] w fun e w'=>e = .returned (.tuple #[.int .i64 n,.int .i64 x])∧Below w.heap.size w w':=by
  intro hne
  rw [if_neg hne] at hl
  have hpre:(s.toList.isEmpty=true)∨(s.toList.isEmpty=false∧zf=true)∨(s.toList.isEmpty=false∧zf=false∧zr=true):=by
   by_cases he:s.toList.isEmpty=true
   ·exact .inl he
   have he:s.toList.isEmpty=false:=by simpa using he
   by_cases h1:zf=true
   ·exact .inr (.inl ⟨he,h1⟩)
   have h1:zf=false:=by simpa using h1
   by_cases h2:zr=true
   ·exact .inr (.inr ⟨he,h1,h2⟩)
   ·exact absurd ⟨he,h1,by simpa using h2⟩ hne
  by_cases h3:s.size<3
  ·rw [if_pos h3] at hl
   simp only [Prod.mk.injEq] at hl
   obtain ⟨rfl,rfl⟩:=hl
   clear hne
   have h3':(s.size:Int)<3:=by omega
   rcases hpre with he|⟨he,rfl⟩|⟨he,rfl,rfl⟩
   ·go_enter Tryz.func91,Tryz.ntmps91
    go_wp2_with fail
    go_ret2
    exact ⟨rfl,Below.refl _ _⟩
   ·go_enter Tryz.func91,Tryz.ntmps91
    go_wp2_with (go_at_call 135;refine (HF.out _).mono ?_;rintro e w1 ⟨rfl,rfl⟩)
    go_ret2
    exact ⟨rfl,Below.refl _ _⟩
   ·go_enter Tryz.func91,Tryz.ntmps91
    go_wp2_with (first|(go_at_call 135;refine (HF.out _).mono ?_;rintro e w1 ⟨rfl,rfl⟩)|(go_at_call 136;refine (HR.out _).mono ?_;rintro e w1 ⟨rfl,rfl⟩))
    go_ret2
    exact ⟨rfl,Below.refl _ _⟩
  ·rw [if_neg h3] at hl
   have he:s.toList.isEmpty=false:=by
    cases hx:s.toList.isEmpty with
    | false=>rfl
    | true=>have:=empty_size hx;omega
   obtain ⟨v,rest,y,hc⟩:∃ v r y,Oc.numS (s.extract 1 s.size) 2=(v,r,y):=⟨_,_,_,rfl⟩
   have hv:toldN s=v:=by unfold toldN;rw [hc]
   have hvl:v<65536:=Oc.numS_lt (n:=2) hc
   rw [hv] at hl
   have HN:Hid (Calls Tryz.prog 77 #[.pointer (some ⟨w.heap.size,0,none⟩),.int .i64 2] (w.alloc (.cells #[.string (s.extract 1 s.size),.int .i64 0] 191)) fun e w'=>e = .returned (.int .i64 v)∧Below w.heap.size w w'):=Lib.hid (by
    refine (Oc.num_any w.heap.size (s.extract 1 s.size) 2 _ (heap_alloc_new w _) hc).mono ?_
    rintro e w' ⟨rfl,_,hg⟩
    exact ⟨rfl,below_grown' ((Below.refl w.heap.size w).alloc (Nat.le_refl _) _) hg (Nat.le_refl _) (Nat.le_refl _)⟩)
   have h1s:(1:Int)≤s.size:=by omega
   have h3':¬ (s.size:Int)<3:=by omega
   clear hc hv
   have hzz:zf=true∨(zf=false∧zr=true):=by
    rcases hpre with h|⟨_,h⟩|⟨_,h,h'⟩
    ·rw [he] at h;cases h
    ·exact .inl h
    ·exact .inr ⟨h,h'⟩
   clear hne hpre h3
   by_cases c1:v<3
   ·rw [if_pos (.inl c1)] at hl
    simp only [Prod.mk.injEq] at hl
    obtain ⟨rfl,rfl⟩:=hl
    have c1':(v:Int)<3:=by omega
    rcases hzz with rfl|⟨rfl,rfl⟩
    all_goals
     go_enter Tryz.func91,Tryz.ntmps91
     go_wp2_with (first|(go_at_call 135;refine (HF.out _).mono ?_;rintro e w1 ⟨rfl,rfl⟩)|(go_at_call 136;refine (HR.out _).mono ?_;rintro e w1 ⟨rfl,rfl⟩)|(go_at_call 76;refine (Oc.new_any _ _).mono ?_;rintro e w1 ⟨rfl,rfl⟩))
     refine HN.out.mono ?_
     rintro e w2 ⟨rfl,hb⟩
     have HB:=Lib.hid hb
     clear hb
     go_wp2_with (first|(go_at_call 135;refine (HF.out _).mono ?_;rintro e w3 ⟨rfl,rfl⟩))
     go_ret2
     exact ⟨rfl,HB.out⟩
   ·have c1':¬ (v:Int)<3:=by omega
    rcases hzz with rfl|⟨rfl,rfl⟩
    ·by_cases c2:1024<v
     ·rw [if_pos (.inr ⟨rfl,c2⟩)] at hl
      simp only [Prod.mk.injEq] at hl
      obtain ⟨rfl,rfl⟩:=hl
      have c2':(1024:Int)<v:=by omega
      go_enter Tryz.func91,Tryz.ntmps91
      go_wp2_with (first|(go_at_call 135;refine (HF.out _).mono ?_;rintro e w1 ⟨rfl,rfl⟩)|(go_at_call 76;refine (Oc.new_any _ _).mono ?_;rintro e w1 ⟨rfl,rfl⟩))
      refine HN.out.mono ?_
      rintro e w2 ⟨rfl,hb⟩
      have HB:=Lib.hid hb
      clear hb
      go_wp2_with (first|(go_at_call 135;refine (HF.out _).mono ?_;rintro e w3 ⟨rfl,rfl⟩))
      go_ret2
      exact ⟨rfl,HB.out⟩
     ·rw [if_neg (fun h=>h.elim c1 (fun h=>c2 h.2))] at hl
      have c2':¬ (1024:Int)<v:=by omega
      by_cases c4:s.size<v
      ·rw [if_pos c4] at hl
       simp only [Prod.mk.injEq] at hl
       obtain ⟨rfl,rfl⟩:=hl
       have c4':(s.size:Int)<(v:Int):=by omega
       clear c1 c2
       go_enter Tryz.func91,Tryz.ntmps91
       go_wp2_with (first|(go_at_call 135;refine (HF.out _).mono ?_;rintro e w1 ⟨rfl,rfl⟩)|(go_at_call 76;refine (Oc.new_any _ _).mono ?_;rintro e w1 ⟨rfl,rfl⟩))
       refine HN.out.mono ?_
       rintro e w2 ⟨rfl,hb⟩
       have HB:=Lib.hid hb
       clear hb
       go_wp2_with (first|(go_at_call 135;refine (HF.out _).mono ?_;rintro e w3 ⟨rfl,rfl⟩))
       go_ret2
       exact ⟨rfl,HB.out⟩
      ·rw [if_neg c4] at hl
       simp only [Prod.mk.injEq] at hl
       obtain ⟨rfl,rfl⟩:=hl
       have c4':¬ (s.size:Int)<(v:Int):=by omega
       clear c1 c2
       go_enter Tryz.func91,Tryz.ntmps91
       go_wp2_with (first|(go_at_call 135;refine (HF.out _).mono ?_;rintro e w1 ⟨rfl,rfl⟩)|(go_at_call 76;refine (Oc.new_any _ _).mono ?_;rintro e w1 ⟨rfl,rfl⟩))
       refine HN.out.mono ?_
       rintro e w2 ⟨rfl,hb⟩
       have HB:=Lib.hid hb
       clear hb
       go_wp2_with (first|(go_at_call 135;refine (HF.out _).mono ?_;rintro e w3 ⟨rfl,rfl⟩))
       go_ret2
       exact ⟨rfl,HB.out⟩
    ·rw [if_neg (fun h=>h.elim c1 (fun h=>by cases h.1))] at hl
     by_cases c4:s.size<v
     ·rw [if_pos c4] at hl
      simp only [Prod.mk.injEq] at hl
      obtain ⟨rfl,rfl⟩:=hl
      have c4':(s.size:Int)<(v:Int):=by omega
      clear c1
      go_enter Tryz.func91,Tryz.ntmps91
      go_wp2_with (first|(go_at_call 135;refine (HF.out _).mono ?_;rintro e w1 ⟨rfl,rfl⟩)|(go_at_call 136;refine (HR.out _).mono ?_;rintro e w1 ⟨rfl,rfl⟩)|(go_at_call 76;refine (Oc.new_any _ _).mono ?_;rintro e w1 ⟨rfl,rfl⟩))
      refine HN.out.mono ?_
      rintro e w2 ⟨rfl,hb⟩
      have HB:=Lib.hid hb
      clear hb
      go_wp2_with (first|(go_at_call 135;refine (HF.out _).mono ?_;rintro e w3 ⟨rfl,rfl⟩))
      go_ret2
      exact ⟨rfl,HB.out⟩
     ·rw [if_neg c4] at hl
      simp only [Prod.mk.injEq] at hl
      obtain ⟨rfl,rfl⟩:=hl
      have c4':¬ (s.size:Int)<(v:Int):=by omega
      clear c1
      go_enter Tryz.func91,Tryz.ntmps91
      go_wp2_with (first|(go_at_call 135;refine (HF.out _).mono ?_;rintro e w1 ⟨rfl,rfl⟩)|(go_at_call 136;refine (HR.out _).mono ?_;rintro e w1 ⟨rfl,rfl⟩)|(go_at_call 76;refine (Oc.new_any _ _).mono ?_;rintro e w1 ⟨rfl,rfl⟩))
      refine HN.out.mono ?_
      rintro e w2 ⟨rfl,hb⟩
      have HB:=Lib.hid hb
      clear hb
      go_wp2_with (first|(go_at_call 135;refine (HF.out _).mono ?_;rintro e w3 ⟨rfl,rfl⟩))
      go_ret2
      exact ⟨rfl,HB.out⟩
 by_cases hne:s.toList.isEmpty=false∧zf=false∧zr=false
 ·clear finish
  rw [if_pos hne] at hl
  obtain ⟨he,rfl,rfl⟩:=hne
  simp only [Prod.mk.injEq] at hl
  obtain ⟨rfl,rfl⟩:=hl
  go_enter Tryz.func91,Tryz.ntmps91
  go_wp2_with (first|(go_at_call 135;refine (HF.out _).mono ?_;rintro e w1 ⟨rfl,rfl⟩)|(go_at_call 136;refine (HR.out _).mono ?_;rintro e w1 ⟨rfl,rfl⟩))
  go_ret2
  exact ⟨rfl,Below.refl _ _⟩
 ·exact finish hne
def fillM (n:Nat):MsgM:=⟨0,0,0,0,0,0,⟨#[]⟩,⟨#[]⟩,nots n,[]⟩
def openedS (s:ByteArray):MsgM×Int:=
 if hasB s fH=true then (if notsB (s.extract 3 s.size)=true then (fillM s.size,0) else (zeroM,4))
 else if Cr.openB (s.extract 3 s.size)=true then (if unpB (Cr.openS (s.extract 3 s.size))=true then ((unpS (Cr.openS (s.extract 3 s.size))).m,0) else (zeroM,4)) else (zeroM,5)
def getS (s:ByteArray):MsgM×Int×Int:=
 if (lenS s).2≠0 then (zeroM,0,(lenS s).2)
 else if (openedS (s.extract 0 (lenS s).1.toNat)).2≠0 then (zeroM,0,(openedS (s.extract 0 (lenS s).1.toNat)).2)
 else ((openedS (s.extract 0 (lenS s).1.toNat)).1,(lenS s).1,0)
def ROpenTo (m:MsgM) (x:Int) (w:World) (e:Ending) (w':World):Prop:=∃ vk,e = .returned (.tuple #[m.val vk,.int .i64 x])∧Strs w' w.heap.size vk m.keys∧CapOk vk∧Below w.heap.size w w'
theorem box_zero (w:World):Box (w.alloc (.cells zc 36)) w.heap.size zc:=Box.new w zc
set_option maxHeartbeats 2000000 in
set_option maxRecDepth 100000 in
theorem filler_any (s:ByteArray) (m:MsgM) (x:Int) (w:World) (h3:3≤s.size) (hs:s.size≤1000000) (hm:(if notsB (s.extract 3 s.size)=true then (fillM s.size,(0:Int)) else (zeroM,4))=(m,x)) :
 Calls Tryz.prog 137 #[.string s] w (ROpenTo m x w):=by
 obtain ⟨z,hz⟩:∃ z,notsB (s.extract 3 s.size)=z:=⟨_,rfl⟩
 rw [hz] at hm
 have hez:(s.extract 3 s.size).size≤1000000:=by rw [ByteArray.size_extract];omega
 have HN:=Lib.hid fun W=>areNots_any (s.extract 3 s.size) z W hez hz
 obtain ⟨W0,hW0⟩:∃ W,W=w.alloc (.cells #[.int .i64 0,.int .i64 0,.int .i64 0,.int .i64 0,.int .i64 0,.int .i64 0,.string ⟨#[]⟩,.string ⟨#[]⟩,.string ⟨#[]⟩,.slice none 0 0] 36):=⟨_,rfl⟩
 have hb0:Box W0 w.heap.size zc:=hW0▸box_zero w
 have hl0:Below w.heap.size w W0:=hW0▸(Below.refl _ _).alloc (Nat.le_refl _) _
 have HB0:=Lib.hid hb0
 have HL0:=Lib.hid hl0
 have HW0:=Lib.hid hW0
 have h3I:(3:Int)≤s.size:=by omega
 clear hb0 hl0 hW0 hez hz
 cases z
 ·rw [if_neg (by decide)] at hm
  simp only [Prod.mk.injEq] at hm
  obtain ⟨rfl,rfl⟩:=hm
  go_enter Tryz.func137,Tryz.ntmps137
  go_wp2_with fail
  rw [←HW0.out]
  refine (HN.out W0).mono ?_
  rintro e w1 ⟨rfl,hb⟩
  have HZ:=Lib.hid (HB0.out.below hb HB0.out.lt)
  have HBL:=Lib.hid (HL0.out.trans (hb.mono HL0.out.size))
  have hzm:=HZ.out.cell
  have hzf:=HZ.out.free
  simp only [zc] at hzm
  clear hb
  go_wp2_with fail
  obtain ⟨W,hW⟩:∃ W,W=set10 w1 w.heap.size (.int .i64 0) (.int .i64 0) (.int .i64 0) (.int .i64 0) (.int .i64 0) (.int .i64 0) (.string ⟨#[]⟩) (.string ⟨#[]⟩) (.string ⟨#[]⟩) (.slice none 0 0):=⟨_,rfl⟩
  have hbx:Box W w.heap.size #[.int .i64 0,.int .i64 0,.int .i64 0,.int .i64 0,.int .i64 0,.int .i64 0,.string ⟨#[]⟩,.string ⟨#[]⟩,.string ⟨#[]⟩,.slice none 0 0]:=by rw [hW];exact box_set10 HZ.out _ _ _ _ _ _ _ _ _ _
  have hbl:Below w.heap.size w W:=by rw [hW];exact below_set10 HBL.out (Nat.le_refl _) _ _ _ _ _ _ _ _ _ _
  unfold set10 at hW
  rw [←hW]
  have hpm:=Box.cell hbx
  exact bodyPost_ret (v:=.tuple #[zeroM.val (.slice none 0 0),.int .i64 4]) (by simp [results,Tryz.results137,go_sem,hpm,zeroM,MsgM.val,MsgM.cells]) rfl ⟨.slice none 0 0,rfl,⟨none,0,rfl,.inl rfl⟩,⟨none,0,0,rfl,Nat.le_refl _⟩,hbl⟩
 ·rw [if_pos rfl] at hm
  simp only [Prod.mk.injEq] at hm
  obtain ⟨rfl,rfl⟩:=hm
  obtain ⟨t,ht⟩:∃ t,t=nots s.size:=⟨_,rfl⟩
  have HT:Hid (∀ W,Calls Tryz.prog 168 #[.int .i64 s.size] W fun e w'=>e = .returned (.string t)∧Below W.heap.size W w'):=Lib.hid fun W=>by rw [ht];exact nots_any s.size W (by omega)
  have HTE:=Lib.hid ht
  clear ht
  go_enter Tryz.func137,Tryz.ntmps137
  go_wp2_with fail
  rw [←HW0.out]
  refine (HN.out W0).mono ?_
  rintro e w1 ⟨rfl,hb⟩
  have HZ1:=Lib.hid (HB0.out.below hb HB0.out.lt)
  have HBL1:=Lib.hid (HL0.out.trans (hb.mono HL0.out.size))
  clear hb
  go_wp2_with fail
  refine (HT.out w1).mono ?_
  rintro e w2 ⟨rfl,hb⟩
  have HZ:=Lib.hid (HZ1.out.below hb HZ1.out.lt)
  have HBL:=Lib.hid (HBL1.out.trans (hb.mono HBL1.out.size))
  have hzm:=HZ.out.cell
  have hzf:=HZ.out.free
  simp only [zc] at hzm
  clear hb
  go_wp2_with fail
  obtain ⟨W,hW⟩:∃ W,W=set10 w2 w.heap.size (.int .i64 0) (.int .i64 0) (.int .i64 0) (.int .i64 0) (.int .i64 0) (.int .i64 0) (.string ⟨#[]⟩) (.string ⟨#[]⟩) (.string t) (.slice none 0 0):=⟨_,rfl⟩
  have hbx:Box W w.heap.size #[.int .i64 0,.int .i64 0,.int .i64 0,.int .i64 0,.int .i64 0,.int .i64 0,.string ⟨#[]⟩,.string ⟨#[]⟩,.string t,.slice none 0 0]:=by rw [hW];exact box_set10 HZ.out _ _ _ _ _ _ _ _ _ _
  have hbl:Below w.heap.size w W:=by rw [hW];exact below_set10 HBL.out (Nat.le_refl _) _ _ _ _ _ _ _ _ _ _
  unfold set10 at hW
  rw [←hW]
  have hpm:=Box.cell hbx
  exact bodyPost_ret (v:=.tuple #[(fillM s.size).val (.slice none 0 0),.int .i64 0]) (by simp [results,Tryz.results137,go_sem,hpm,fillM,MsgM.val,MsgM.cells,HTE.out]) rfl ⟨.slice none 0 0,rfl,⟨none,0,rfl,.inl rfl⟩,⟨none,0,0,rfl,Nat.le_refl _⟩,hbl⟩
set_option maxHeartbeats 4000000 in
set_option maxRecDepth 100000 in
theorem opened_fill (t:Nat) (s:ByteArray) (m:MsgM) (x:Int) (w:World) (h3:3≤s.size) (hs:s.size≤1000000) (hf:hasB s fH=true) (hm:openedS s=(m,x)) :
 Calls Tryz.prog 92 #[.pointer (some ⟨t,0,none⟩),.string s] w (ROpenTo m x w):=by
 unfold openedS at hm
 rw [if_pos hf] at hm
 obtain ⟨W0,hW0⟩:∃ W,W=w.alloc (.cells #[.int .i64 0,.int .i64 0,.int .i64 0,.int .i64 0,.int .i64 0,.int .i64 0,.string ⟨#[]⟩,.string ⟨#[]⟩,.string ⟨#[]⟩,.slice none 0 0] 36):=⟨_,rfl⟩
 have hb0:Box W0 w.heap.size zc:=hW0▸box_zero w
 have hl0:Below w.heap.size w W0:=hW0▸(Below.refl _ _).alloc (Nat.le_refl _) _
 have hz0:w.heap.size+1=W0.heap.size:=by rw [hW0,World.size_alloc]
 have HF:=Lib.hid fun W=>isF_any s true W (by unfold maxLen;omega) hf
 have HC:=Lib.hid (filler_any s m x W0 h3 hs hm)
 have HB0:=Lib.hid hb0
 have HL0:=Lib.hid hl0
 have HW0:=Lib.hid hW0
 have HZ0:=Lib.hid hz0
 clear hb0 hl0 hW0 hm hf h3 hs hz0
 go_enter Tryz.func92,Tryz.ntmps92
 go_wp2_with fail
 refine (HF.out _).mono ?_
 rintro e w1 ⟨rfl,rfl⟩
 go_wp2_with fail
 rw [←HW0.out]
 refine HC.out.mono ?_
 rintro e w2 ⟨vk,rfl,hst,hcap,hb⟩
 obtain ⟨va,vl,vcp,rfl,hle⟩:=hcap
 have hcap:CapOk (.slice va vl vcp):=⟨va,vl,vcp,rfl,hle⟩
 clear hle
 have HZ:=Lib.hid (HB0.out.below hb HB0.out.lt)
 have HBL:=Lib.hid (HL0.out.trans (hb.mono HL0.out.size))
 have HST:=Lib.hid hst
 have HCAP:=Lib.hid hcap
 have hzm:=HZ.out.cell
 have hzf:=HZ.out.free
 simp only [zc] at hzm
 clear hb hst hcap
 unfold MsgM.val MsgM.cells
 obtain ⟨kind,queue,due,retry,ref,born,topic,tag,body,keys⟩:=m
 simp only
 go_wp2_with fail
 obtain ⟨W,hW⟩:∃ W,W=set10 w2 w.heap.size (.int .i64 kind) (.int .i64 queue) (.int .i64 due) (.int .i64 retry) (.int .i64 ref) (.int .i64 born) (.string topic) (.string tag) (.string body) (.slice va vl vcp):=⟨_,rfl⟩
 have hbx:Box W w.heap.size #[.int .i64 kind,.int .i64 queue,.int .i64 due,.int .i64 retry,.int .i64 ref,.int .i64 born,.string topic,.string tag,.string body,.slice va vl vcp]:=by rw [hW];exact box_set10 HZ.out _ _ _ _ _ _ _ _ _ _
 have hbl:Below w.heap.size w W:=by rw [hW];exact below_set10 HBL.out (Nat.le_refl _) _ _ _ _ _ _ _ _ _ _
 have hst:Strs W W0.heap.size (.slice va vl vcp) keys:=by rw [hW];exact strs_set10 HST.out (by have:=HZ0.out;omega) _ _ _ _ _ _ _ _ _ _
 unfold set10 at hW
 rw [←hW]
 have hpm:=Box.cell hbx
 exact bodyPost_ret (v:=.tuple #[MsgM.val ⟨kind,queue,due,retry,ref,born,topic,tag,body,keys⟩ (.slice va vl vcp),.int .i64 x]) (by simp [results,Tryz.results92,go_sem,hpm,MsgM.val,MsgM.cells]) rfl ⟨.slice va vl vcp,rfl,strs_low hst (by have:=HZ0.out;omega),HCAP.out,hbl⟩
set_option maxHeartbeats 4000000 in
set_option maxRecDepth 100000 in
theorem opened_rec (t:Nat) (s:ByteArray) (m:MsgM) (x:Int) (w:World) (ht:Cr.Tab w t) (h3:3≤s.size) (hs:s.size≤1000000) (hf:hasB s fH=false) (hm:openedS s=(m,x)) :
 Calls Tryz.prog 92 #[.pointer (some ⟨t,0,none⟩),.string s] w (ROpenTo m x w):=by
 unfold openedS at hm
 rw [if_neg (by rw [hf];decide)] at hm
 have htl:t<w.heap.size:=ht.lt
 obtain ⟨W0,hW0⟩:∃ W,W=w.alloc (.cells #[.int .i64 0,.int .i64 0,.int .i64 0,.int .i64 0,.int .i64 0,.int .i64 0,.string ⟨#[]⟩,.string ⟨#[]⟩,.string ⟨#[]⟩,.slice none 0 0] 36):=⟨_,rfl⟩
 have hb0:Box W0 w.heap.size zc:=hW0▸box_zero w
 have hl0:Below w.heap.size w W0:=hW0▸(Below.refl _ _).alloc (Nat.le_refl _) _
 have hz0:w.heap.size+1=W0.heap.size:=by rw [hW0,World.size_alloc]
 have HF:=Lib.hid fun W=>isF_any s false W (by unfold maxLen;omega) hf
 obtain ⟨r,hr⟩:∃ r,r=s.extract 3 s.size:=⟨_,rfl⟩
 have hrs:r.size≤1000000:=by rw [hr,ByteArray.size_extract];omega
 rw [←hr] at hm
 obtain ⟨zo,hzo⟩:∃ z,Cr.openB r=z:=⟨_,rfl⟩
 obtain ⟨p,hp⟩:∃ p,Cr.openS r=p:=⟨_,rfl⟩
 have hps:p.size≤1000000:=by
  rw [←hp]
  unfold Cr.openS
  split
  ·rw [ByteArray.size_extract];omega
  ·exact Nat.zero_le _
 rw [hzo,hp] at hm
 have HO:Hid (Calls Tryz.prog 138 #[.pointer (some ⟨t,0,none⟩),.string (s.extract 3 s.size)] W0 fun e w'=>e = .returned (.tuple #[.string p,.bool zo])∧Below W0.heap.size W0 w'):=Lib.hid (by
  rw [←hr,←hzo,←hp]
  exact Cr.open_any t r W0 (Cr.Tab.below ht hl0 htl) hrs)
 have HU:=Lib.hid fun W=>unp_any p W hps
 have h3I:(3:Int)≤s.size:=by omega
 have HB0:=Lib.hid hb0
 have HL0:=Lib.hid hl0
 have HW0:=Lib.hid hW0
 have HZ0:=Lib.hid hz0
 clear hb0 hl0 hW0 hf h3 hs hz0 ht htl hr hrs hzo hp hps
 cases zo
 ·rw [if_neg (by decide)] at hm
  simp only [Prod.mk.injEq] at hm
  obtain ⟨rfl,rfl⟩:=hm
  go_enter Tryz.func92,Tryz.ntmps92
  go_wp2_with fail
  refine (HF.out _).mono ?_
  rintro e w1 ⟨rfl,rfl⟩
  go_wp2_with fail
  rw [←HW0.out]
  refine HO.out.mono ?_
  rintro e w2 ⟨rfl,hb⟩
  have HZ:=Lib.hid (HB0.out.below hb HB0.out.lt)
  have HBL:=Lib.hid (HL0.out.trans (hb.mono HL0.out.size))
  have hzm:=HZ.out.cell
  have hzf:=HZ.out.free
  simp only [zc] at hzm
  clear hb
  go_wp2_with fail
  obtain ⟨W,hW⟩:∃ W,W=set10 w2 w.heap.size (.int .i64 0) (.int .i64 0) (.int .i64 0) (.int .i64 0) (.int .i64 0) (.int .i64 0) (.string ⟨#[]⟩) (.string ⟨#[]⟩) (.string ⟨#[]⟩) (.slice none 0 0):=⟨_,rfl⟩
  have hbx:Box W w.heap.size #[.int .i64 0,.int .i64 0,.int .i64 0,.int .i64 0,.int .i64 0,.int .i64 0,.string ⟨#[]⟩,.string ⟨#[]⟩,.string ⟨#[]⟩,.slice none 0 0]:=by rw [hW];exact box_set10 HZ.out _ _ _ _ _ _ _ _ _ _
  have hbl:Below w.heap.size w W:=by rw [hW];exact below_set10 HBL.out (Nat.le_refl _) _ _ _ _ _ _ _ _ _ _
  skip
  unfold set10 at hW
  rw [←hW]
  have hpm:=Box.cell hbx
  exact bodyPost_ret (v:=.tuple #[MsgM.val zeroM (.slice none 0 0),.int .i64 5]) (by simp [results,Tryz.results92,go_sem,hpm,MsgM.val,MsgM.cells,zeroM]) rfl ⟨.slice none 0 0,rfl,⟨none,0,rfl,.inl rfl⟩,⟨none,0,0,rfl,Nat.le_refl _⟩,hbl⟩
 ·rw [if_pos rfl] at hm
  obtain ⟨zu,hzu⟩:∃ z,unpB p=z:=⟨_,rfl⟩
  rw [hzu] at hm
  have HZU:=Lib.hid hzu
  clear hzu
  cases zu
  ·rw [if_neg (by decide)] at hm
   simp only [Prod.mk.injEq] at hm
   obtain ⟨rfl,rfl⟩:=hm
   go_enter Tryz.func92,Tryz.ntmps92
   go_wp2_with fail
   refine (HF.out _).mono ?_
   rintro e w1 ⟨rfl,rfl⟩
   go_wp2_with fail
   rw [←HW0.out]
   refine HO.out.mono ?_
   rintro e w2 ⟨rfl,hb⟩
   have HZ2:=Lib.hid (HB0.out.below hb HB0.out.lt)
   have HBL2:=Lib.hid (HL0.out.trans (hb.mono HL0.out.size))
   clear hb
   go_wp2_with fail
   refine (HU.out w2).mono ?_
   rintro e w3 ⟨m3,vk,rfl,hst,hcap,hm3,hb⟩
   obtain ⟨va,vl,vcp,rfl,hle⟩:=hcap
   have hcap:CapOk (.slice va vl vcp):=⟨va,vl,vcp,rfl,hle⟩
   clear hle
   rw [HZU.out,if_neg (by decide)] at hm3
   subst hm3
   rw [HZU.out]
   have HZ:=Lib.hid (HZ2.out.below hb HZ2.out.lt)
   have HBL:=Lib.hid (HBL2.out.trans (hb.mono HBL2.out.size))
   have hzm:=HZ.out.cell
   have hzf:=HZ.out.free
   have hlt:=HZ.out.lt
   simp only [zc] at hzm
   clear hb hst hcap
   unfold MsgM.val MsgM.cells zeroM
   simp only
   go_wp2_with fail
   obtain ⟨W,hW⟩:∃ W,W=(set10 w3 w.heap.size (.int .i64 0) (.int .i64 0) (.int .i64 0) (.int .i64 0) (.int .i64 0) (.int .i64 0) (.string ⟨#[]⟩) (.string ⟨#[]⟩) (.string ⟨#[]⟩) (.slice none 0 0)).alloc (.cells #[.int .i64 0,.int .i64 0,.int .i64 0,.int .i64 0,.int .i64 0,.int .i64 0,.string ⟨#[]⟩,.string ⟨#[]⟩,.string ⟨#[]⟩,.slice va vl vcp] 36):=⟨_,rfl⟩
   have hbx:Box W w.heap.size #[.int .i64 0,.int .i64 0,.int .i64 0,.int .i64 0,.int .i64 0,.int .i64 0,.string ⟨#[]⟩,.string ⟨#[]⟩,.string ⟨#[]⟩,.slice none 0 0]:=by rw [hW];exact (box_set10 HZ.out _ _ _ _ _ _ _ _ _ _).alloc _
   have hbl0:Below w.heap.size w (set10 w3 w.heap.size (.int .i64 0) (.int .i64 0) (.int .i64 0) (.int .i64 0) (.int .i64 0) (.int .i64 0) (.string ⟨#[]⟩) (.string ⟨#[]⟩) (.string ⟨#[]⟩) (.slice none 0 0)):=below_set10 HBL.out (Nat.le_refl _) _ _ _ _ _ _ _ _ _ _
   have hbl:Below w.heap.size w W:=by rw [hW];exact hbl0.alloc hbl0.size _
   skip
   unfold set10 at hW
   rw [←hW]
   have hpm:=Box.cell hbx
   exact bodyPost_ret (v:=.tuple #[MsgM.val zeroM (.slice none 0 0),.int .i64 4]) (by simp [results,Tryz.results92,go_sem,hpm,MsgM.val,MsgM.cells,zeroM]) rfl ⟨.slice none 0 0,rfl,⟨none,0,rfl,.inl rfl⟩,⟨none,0,0,rfl,Nat.le_refl _⟩,hbl⟩
  ·rw [if_pos rfl] at hm
   simp only [Prod.mk.injEq] at hm
   obtain ⟨hm1,rfl⟩:=hm
   have HM:=Lib.hid hm1
   clear hm1
   go_enter Tryz.func92,Tryz.ntmps92
   go_wp2_with fail
   refine (HF.out _).mono ?_
   rintro e w1 ⟨rfl,rfl⟩
   go_wp2_with fail
   rw [←HW0.out]
   refine HO.out.mono ?_
   rintro e w2 ⟨rfl,hb⟩
   have HZ2:=Lib.hid (HB0.out.below hb HB0.out.lt)
   have HBL2:=Lib.hid (HL0.out.trans (hb.mono HL0.out.size))
   clear hb
   go_wp2_with fail
   refine (HU.out w2).mono ?_
   rintro e w3 ⟨m3,vk,rfl,hst,hcap,hm3,hb⟩
   obtain ⟨va,vl,vcp,rfl,hle⟩:=hcap
   have hcap:CapOk (.slice va vl vcp):=⟨va,vl,vcp,rfl,hle⟩
   clear hle
   rw [HZU.out,if_pos rfl,HM.out] at hm3
   subst hm3
   rw [HZU.out]
   have HZ:=Lib.hid (HZ2.out.below hb HZ2.out.lt)
   have HBL:=Lib.hid (HBL2.out.trans (hb.mono HBL2.out.size))
   have HST:=Lib.hid hst
   have HCAP:=Lib.hid hcap
   have HLT2:=Lib.hid HZ2.out.lt
   have hzm:=HZ.out.cell
   have hzf:=HZ.out.free
   have hlt:=HZ.out.lt
   simp only [zc] at hzm
   clear hb hst hcap
   obtain ⟨kind,queue,due,retry,ref,born,topic,tag,body,keys⟩:=m3
   unfold MsgM.val MsgM.cells
   simp only
   go_wp2_with fail
   obtain ⟨W,hW⟩:∃ W,W=(set10 w3 w.heap.size (.int .i64 kind) (.int .i64 queue) (.int .i64 due) (.int .i64 retry) (.int .i64 ref) (.int .i64 born) (.string topic) (.string tag) (.string body) (.slice va vl vcp)).alloc (.cells #[.int .i64 kind,.int .i64 queue,.int .i64 due,.int .i64 retry,.int .i64 ref,.int .i64 born,.string topic,.string tag,.string body,.slice va vl vcp] 36):=⟨_,rfl⟩
   have hbx:Box W w.heap.size #[.int .i64 kind,.int .i64 queue,.int .i64 due,.int .i64 retry,.int .i64 ref,.int .i64 born,.string topic,.string tag,.string body,.slice va vl vcp]:=by rw [hW];exact (box_set10 HZ.out _ _ _ _ _ _ _ _ _ _).alloc _
   have hbl0:Below w.heap.size w (set10 w3 w.heap.size (.int .i64 kind) (.int .i64 queue) (.int .i64 due) (.int .i64 retry) (.int .i64 ref) (.int .i64 born) (.string topic) (.string tag) (.string body) (.slice va vl vcp)):=below_set10 HBL.out (Nat.le_refl _) _ _ _ _ _ _ _ _ _ _
   have hbl:Below w.heap.size w W:=by rw [hW];exact hbl0.alloc hbl0.size _
   have hst:Strs W w2.heap.size (.slice va vl vcp) keys:=by rw [hW];exact (strs_set10 HST.out HLT2.out _ _ _ _ _ _ _ _ _ _).below ((Below.refl _ _).alloc (Nat.le_refl _) _) (Nat.le_refl _)
   unfold set10 at hW
   rw [←hW]
   have hpm:=Box.cell hbx
   exact bodyPost_ret (v:=.tuple #[MsgM.val ⟨kind,queue,due,retry,ref,born,topic,tag,body,keys⟩ (.slice va vl vcp),.int .i64 0]) (by simp [results,Tryz.results92,go_sem,hpm,MsgM.val,MsgM.cells]) rfl ⟨.slice va vl vcp,rfl,strs_low hst (Nat.le_of_lt HLT2.out),HCAP.out,hbl⟩
theorem opened_any (t:Nat) (s:ByteArray) (m:MsgM) (x:Int) (w:World) (ht:Cr.Tab w t) (h3:3≤s.size) (hs:s.size≤1000000) (hm:openedS s=(m,x)) :
 Calls Tryz.prog 92 #[.pointer (some ⟨t,0,none⟩),.string s] w (ROpenTo m x w):=by
 cases hf:hasB s fH with
 | true=>exact opened_fill t s m x w h3 hs hf hm
 | false=>exact opened_rec t s m x w ht h3 hs hf hm
def GetTo (m:MsgM) (n x:Int) (w:World) (e:Ending) (w':World):Prop:=∃ vk,e = .returned (.tuple #[m.val vk,.int .i64 n,.int .i64 x])∧Strs w' w.heap.size vk m.keys∧CapOk vk∧Below w.heap.size w w'
theorem lenS_ok {s:ByteArray} {n:Int} (h:lenS s=(n,0)):3≤n∧n≤s.size∧n=(toldN s:Int):=by
 unfold lenS at h
 split at h
 ·simp at h
 ·split at h
  ·simp at h
  ·split at h
   ·simp at h
   ·split at h
    ·simp at h
    ·simp only [Prod.mk.injEq] at h
     omega
set_option maxHeartbeats 4000000 in
set_option maxRecDepth 100000 in
theorem get_any (t:Nat) (s:ByteArray) (m:MsgM) (n x:Int) (w:World) (ht:Cr.Tab w t) (hs:s.size≤1000000) (hm:getS s=(m,n,x)) :
 Calls Tryz.prog 52 #[.pointer (some ⟨t,0,none⟩),.string s] w (GetTo m n x w):=by
 have htl:t<w.heap.size:=ht.lt
 obtain ⟨W0,hW0⟩:∃ W,W=w.alloc (.cells #[.int .i64 0,.int .i64 0,.int .i64 0,.int .i64 0,.int .i64 0,.int .i64 0,.string ⟨#[]⟩,.string ⟨#[]⟩,.string ⟨#[]⟩,.slice none 0 0] 36):=⟨_,rfl⟩
 have hb0:Box W0 w.heap.size zc:=hW0▸box_zero w
 have hl0:Below w.heap.size w W0:=hW0▸(Below.refl _ _).alloc (Nat.le_refl _) _
 have hz0:w.heap.size+1=W0.heap.size:=by rw [hW0,World.size_alloc]
 obtain ⟨ln,lx,hl⟩:∃ a b,lenS s=(a,b):=⟨_,_,rfl⟩
 unfold getS at hm
 rw [hl] at hm
 simp only at hm
 have HL:=Lib.hid fun W=>length_any s ln lx W (by unfold maxLen;omega) hl
 have HB0:=Lib.hid hb0
 have HL0:=Lib.hid hl0
 have HW0:=Lib.hid hW0
 have HZ0:=Lib.hid hz0
 by_cases hx:lx=0
 ·subst hx
  rw [if_neg (by decide)] at hm
  have n3:=(lenS_ok hl).1
  have n4:=(lenS_ok hl).2.1
  obtain ⟨k,hk⟩:∃ k:Nat,ln=(k:Int):=⟨ln.toNat,by omega⟩
  have hkn:ln.toNat=k:=by omega
  rw [hkn] at hm
  subst hk
  obtain ⟨m1,x1,ho⟩:∃ a b,openedS (s.extract 0 k)=(a,b):=⟨_,_,rfl⟩
  rw [ho] at hm
  simp only at hm
  have hez:(s.extract 0 k).size=k:=by rw [ByteArray.size_extract];omega
  have HO:Hid (∀ W,Below W0.heap.size W0 W→Calls Tryz.prog 92 #[.pointer (some ⟨t,0,none⟩),.string (s.extract 0 k)] W (ROpenTo m1 x1 W)):=Lib.hid fun W hb=>
   opened_any t (s.extract 0 k) m1 x1 W (Cr.Tab.below ht (hl0.trans (hb.mono hl0.size)) htl) (by omega) (by omega) ho
  clear hb0 hl0 hW0 hz0 ht htl hl ho hez hkn
  by_cases hx1:x1=0
  ·subst hx1
   rw [if_neg (by decide)] at hm
   simp only [Prod.mk.injEq] at hm
   obtain ⟨rfl,rfl,rfl⟩:=hm
   go_enter Tryz.func52,Tryz.ntmps52
   go_wp2_with fail
   rw [←HW0.out]
   refine (HL.out W0).mono ?_
   rintro e w1 ⟨rfl,hb⟩
   have HZ1:=Lib.hid (HB0.out.below hb HB0.out.lt)
   have HBL1:=Lib.hid (HL0.out.trans (hb.mono HL0.out.size))
   have HOK:=Lib.hid (HO.out w1 hb)
   clear hb
   go_wp2_with fail
   refine HOK.out.mono ?_
   rintro e w3 ⟨vk,rfl,hst,hcap,hb⟩
   obtain ⟨va,vl,vcp,rfl,hle⟩:=hcap
   have HCAP:=Lib.hid (show CapOk (.slice va vl vcp) from ⟨va,vl,vcp,rfl,hle⟩)
   have HZ:=Lib.hid (HZ1.out.below hb HZ1.out.lt)
   have HBL:=Lib.hid (HBL1.out.trans (hb.mono HBL1.out.size))
   have HLT2:=Lib.hid HZ1.out.lt
   have HST:=Lib.hid hst
   have hzm:=HZ.out.cell
   have hzf:=HZ.out.free
   have hlt:=HZ.out.lt
   simp only [zc] at hzm
   clear hb hst hle
   unfold MsgM.val MsgM.cells
   obtain ⟨kind,queue,due,retry,ref,born,topic,tag,body,keys⟩:=m1
   simp only
   go_wp2_with fail
   obtain ⟨W,hW⟩:∃ W,W=(set10 w3 w.heap.size (.int .i64 kind) (.int .i64 queue) (.int .i64 due) (.int .i64 retry) (.int .i64 ref) (.int .i64 born) (.string topic) (.string tag) (.string body) (.slice va vl vcp)).alloc (.cells #[.int .i64 kind,.int .i64 queue,.int .i64 due,.int .i64 retry,.int .i64 ref,.int .i64 born,.string topic,.string tag,.string body,.slice va vl vcp] 36):=⟨_,rfl⟩
   have hbx:Box W w.heap.size #[.int .i64 kind,.int .i64 queue,.int .i64 due,.int .i64 retry,.int .i64 ref,.int .i64 born,.string topic,.string tag,.string body,.slice va vl vcp]:=by rw [hW];exact (box_set10 HZ.out _ _ _ _ _ _ _ _ _ _).alloc _
   have hbl0:Below w.heap.size w (set10 w3 w.heap.size (.int .i64 kind) (.int .i64 queue) (.int .i64 due) (.int .i64 retry) (.int .i64 ref) (.int .i64 born) (.string topic) (.string tag) (.string body) (.slice va vl vcp)):=below_set10 HBL.out (Nat.le_refl _) _ _ _ _ _ _ _ _ _ _
   have hbl:Below w.heap.size w W:=by rw [hW];exact hbl0.alloc hbl0.size _
   have hst:Strs W w1.heap.size (.slice va vl vcp) keys:=by rw [hW];exact (strs_set10 HST.out HLT2.out _ _ _ _ _ _ _ _ _ _).below ((Below.refl _ _).alloc (Nat.le_refl _) _) (Nat.le_refl _)
   unfold set10 at hW
   rw [←hW]
   have hpm:=Box.cell hbx
   exact bodyPost_ret (v:=.tuple #[MsgM.val ⟨kind,queue,due,retry,ref,born,topic,tag,body,keys⟩ (.slice va vl vcp),.int .i64 k,.int .i64 0]) (by simp [results,Tryz.results52,go_sem,hpm,MsgM.val,MsgM.cells]) rfl ⟨.slice va vl vcp,rfl,strs_low hst (Nat.le_of_lt HLT2.out),HCAP.out,hbl⟩
  ·rw [if_pos hx1] at hm
   simp only [Prod.mk.injEq] at hm
   obtain ⟨rfl,rfl,rfl⟩:=hm
   have hb1:(x1 != 0)=true:=by simpa using hx1
   clear hx1
   go_enter Tryz.func52,Tryz.ntmps52
   go_wp2_with fail
   rw [←HW0.out]
   refine (HL.out W0).mono ?_
   rintro e w1 ⟨rfl,hb⟩
   have HZ1:=Lib.hid (HB0.out.below hb HB0.out.lt)
   have HBL1:=Lib.hid (HL0.out.trans (hb.mono HL0.out.size))
   have HOK:=Lib.hid (HO.out w1 hb)
   clear hb
   go_wp2_with fail
   refine HOK.out.mono ?_
   rintro e w3 ⟨vk,rfl,hst,hcap,hb⟩
   obtain ⟨va,vl,vcp,rfl,hle⟩:=hcap
   have HZ:=Lib.hid (HZ1.out.below hb HZ1.out.lt)
   have HBL:=Lib.hid (HBL1.out.trans (hb.mono HBL1.out.size))
   have hzm:=HZ.out.cell
   have hzf:=HZ.out.free
   have hlt:=HZ.out.lt
   simp only [zc] at hzm
   clear hb hst hle
   unfold MsgM.val MsgM.cells
   obtain ⟨kind,queue,due,retry,ref,born,topic,tag,body,keys⟩:=m1
   simp only
   go_wp2_with fail
   obtain ⟨W,hW⟩:∃ W,W=(set10 w3 w.heap.size (.int .i64 0) (.int .i64 0) (.int .i64 0) (.int .i64 0) (.int .i64 0) (.int .i64 0) (.string ⟨#[]⟩) (.string ⟨#[]⟩) (.string ⟨#[]⟩) (.slice none 0 0)).alloc (.cells #[.int .i64 kind,.int .i64 queue,.int .i64 due,.int .i64 retry,.int .i64 ref,.int .i64 born,.string topic,.string tag,.string body,.slice va vl vcp] 36):=⟨_,rfl⟩
   have hbx:Box W w.heap.size #[.int .i64 0,.int .i64 0,.int .i64 0,.int .i64 0,.int .i64 0,.int .i64 0,.string ⟨#[]⟩,.string ⟨#[]⟩,.string ⟨#[]⟩,.slice none 0 0]:=by rw [hW];exact (box_set10 HZ.out _ _ _ _ _ _ _ _ _ _).alloc _
   have hbl0:Below w.heap.size w (set10 w3 w.heap.size (.int .i64 0) (.int .i64 0) (.int .i64 0) (.int .i64 0) (.int .i64 0) (.int .i64 0) (.string ⟨#[]⟩) (.string ⟨#[]⟩) (.string ⟨#[]⟩) (.slice none 0 0)):=below_set10 HBL.out (Nat.le_refl _) _ _ _ _ _ _ _ _ _ _
   have hbl:Below w.heap.size w W:=by rw [hW];exact hbl0.alloc hbl0.size _
   skip
   unfold set10 at hW
   rw [←hW]
   have hpm:=Box.cell hbx
   exact bodyPost_ret (v:=.tuple #[MsgM.val zeroM (.slice none 0 0),.int .i64 0,.int .i64 x1]) (by simp [results,Tryz.results52,go_sem,hpm,MsgM.val,MsgM.cells,zeroM]) rfl ⟨.slice none 0 0,rfl,⟨none,0,rfl,.inl rfl⟩,⟨none,0,0,rfl,Nat.le_refl _⟩,hbl⟩
 ·rw [if_pos hx] at hm
  simp only [Prod.mk.injEq] at hm
  obtain ⟨rfl,rfl,rfl⟩:=hm
  have hb1:(lx != 0)=true:=by simpa using hx
  clear hb0 hl0 hW0 hz0 ht htl hl hx
  go_enter Tryz.func52,Tryz.ntmps52
  go_wp2_with fail
  rw [←HW0.out]
  refine (HL.out W0).mono ?_
  rintro e w1 ⟨rfl,hb⟩
  have HZ:=Lib.hid (HB0.out.below hb HB0.out.lt)
  have HBL:=Lib.hid (HL0.out.trans (hb.mono HL0.out.size))
  have hzm:=HZ.out.cell
  have hzf:=HZ.out.free
  simp only [zc] at hzm
  clear hb
  go_wp2_with fail
  obtain ⟨W,hW⟩:∃ W,W=set10 w1 w.heap.size (.int .i64 0) (.int .i64 0) (.int .i64 0) (.int .i64 0) (.int .i64 0) (.int .i64 0) (.string ⟨#[]⟩) (.string ⟨#[]⟩) (.string ⟨#[]⟩) (.slice none 0 0):=⟨_,rfl⟩
  have hbx:Box W w.heap.size #[.int .i64 0,.int .i64 0,.int .i64 0,.int .i64 0,.int .i64 0,.int .i64 0,.string ⟨#[]⟩,.string ⟨#[]⟩,.string ⟨#[]⟩,.slice none 0 0]:=by rw [hW];exact box_set10 HZ.out _ _ _ _ _ _ _ _ _ _
  have hbl:Below w.heap.size w W:=by rw [hW];exact below_set10 HBL.out (Nat.le_refl _) _ _ _ _ _ _ _ _ _ _
  skip
  unfold set10 at hW
  rw [←hW]
  have hpm:=Box.cell hbx
  exact bodyPost_ret (v:=.tuple #[MsgM.val zeroM (.slice none 0 0),.int .i64 0,.int .i64 lx]) (by simp [results,Tryz.results52,go_sem,hpm,MsgM.val,MsgM.cells,zeroM]) rfl ⟨.slice none 0 0,rfl,⟨none,0,rfl,.inl rfl⟩,⟨none,0,0,rfl,Nat.le_refl _⟩,hbl⟩
theorem bytesL (s:ByteArray):∃ l:List UInt8,s=⟨l.toArray⟩:=⟨s.data.toList,by simp⟩
theorem numR_read (n x:Nat) (h1:1≤n) (h7:n≤7) (hx:x<256 ^ n) (r:List UInt8):numR ⟨(Oc.numB n x ++ r).toArray⟩ 0 n=(x,⟨r.toArray⟩,0):=by
 unfold numR
 rw [if_pos rfl,Oc.numS_read n x h1 h7 hx r]
 rfl
theorem textR_read (t:ByteArray) (r:List UInt8) (most:Int) (h:(t.size:Int)≤most) (h2:t.size≤65535):textR ⟨(Oc.txtB t ++ r).toArray⟩ 0 most=(t,⟨r.toArray⟩,0):=by
 unfold textR
 rw [if_pos rfl,Oc.textS_read t r most h h2]
 rfl
theorem listR_read (ts:List ByteArray) (r:List UInt8) (many most:Int) (hm:(ts.length:Int)≤many) (hl:ts.length≤255) (h:∀ t∈ts,(t.size:Int)≤most∧t.size≤65535):listR ⟨(Oc.listB ts ++ r).toArray⟩ 0 many most=(ts,⟨r.toArray⟩,0):=by
 unfold listR
 rw [if_pos rfl,Oc.listS_read ts r many most hm hl h]
 rfl
theorem numsB_3 (n:Nat) (a b c:Int):Oc.numsB n [a,b,c]=Oc.numB n a.toNat ++ (Oc.numB n b.toNat ++ Oc.numB n c.toNat):=by
 unfold Oc.numsB
 simp
theorem packB_eq (m:MsgM):packB m=Oc.numB 1 m.kind.toNat ++ (Oc.numB 1 m.queue.toNat ++ (Oc.numB 1 m.retry.toNat ++ (Oc.numB 6 m.born.toNat ++ (Oc.numB 6 m.due.toNat ++ (Oc.numB 6 m.ref.toNat ++ (Oc.txtB m.topic ++ (Oc.txtB m.tag ++ (Oc.txtB m.body ++ (Oc.listB m.keys ++ []))))))))):=by
 unfold packB
 rw [numsB_3,numsB_3]
 simp only [List.flatMap_cons,List.flatMap_nil,List.append_nil,List.append_assoc]
theorem unp_pack {m:MsgM} (h:Bd m):unpS ⟨(packB m).toArray⟩=⟨m,⟨#[]⟩,0⟩:=by
 obtain ⟨kind,queue,due,retry,ref,born,topic,tag,body,keys⟩:=m
 obtain ⟨⟨k0,k1⟩,⟨q0,q1⟩,⟨t0,t1⟩,⟨d0,d1⟩,⟨r0,r1⟩,⟨b0,b1⟩,l1,l2,l3,l4,l5⟩:=h
 simp only at k0 k1 q0 q1 t0 t1 d0 d1 r0 r1 b0 b1 l1 l2 l3 l4 l5
 rw [packB_eq]
 unfold unpS
 simp only
 have e1:((1:Nat):Int)=1:=rfl
 have e6:((6:Nat):Int)=6:=rfl
 rw [←e1,←e6]
 rw [numR_read 1 kind.toNat (by decide) (by decide) (by omega)]
 simp only
 rw [numR_read 1 queue.toNat (by decide) (by decide) (by omega)]
 simp only
 rw [numR_read 1 retry.toNat (by decide) (by decide) (by omega)]
 simp only
 rw [numR_read 6 born.toNat (by decide) (by decide) (by omega)]
 simp only
 rw [numR_read 6 due.toNat (by decide) (by decide) (by omega)]
 simp only
 rw [numR_read 6 ref.toNat (by decide) (by decide) (by omega)]
 simp only
 rw [textR_read topic _ 16 (by omega) (by omega)]
 simp only
 rw [textR_read tag _ 16 (by omega) (by omega)]
 simp only
 rw [textR_read body _ 200 (by omega) (by omega)]
 simp only
 rw [listR_read keys _ 3 16 (by omega) (by omega) (fun t ht=>by have:=l5 t ht;omega)]
 simp only [Int.toNat_of_nonneg (show 0≤kind by omega),Int.toNat_of_nonneg q0,Int.toNat_of_nonneg t0,Int.toNat_of_nonneg b0,Int.toNat_of_nonneg d0,Int.toNat_of_nonneg r0]
theorem unpB_pack {m:MsgM} (hr:rightB m=true) (hk:m.kind≠0):unpB ⟨(packB m).toArray⟩=true:=by
 unfold unpB
 rw [unp_pack (right_bd hr hk)]
 simp only
 rw [hr,decide_eq_true hk]
 rfl
theorem sizeL (l:List UInt8):(⟨l.toArray⟩:ByteArray).size=l.length:=rfl
theorem dataL (l:List UInt8):(⟨l.toArray⟩:ByteArray).data.toList=l:=rfl
theorem hasL (k c:UInt8) (l:List UInt8):hasB ⟨(c :: l).toArray⟩ ⟨#[k]⟩=(c == k):=by
 rw [hasB_list,dataL,sizeL]
 show (decide (1≤(c :: l).length) && ((c :: l).take 1 == [k]))=_
 simp
theorem frameB_length (k:UInt8) (rest:List UInt8):(frameB k rest).length=3+rest.length:=by
 unfold frameB
 rw [List.length_cons,List.length_append,Oc.numB_length]
 omega
theorem toldN_frame (k:UInt8) (rest r:List UInt8) (h:3+rest.length<65536):toldN ⟨(frameB k rest ++ r).toArray⟩=3+rest.length:=by
 unfold toldN
 rw [extract_of]
 have e:((frameB k rest ++ r).take (⟨(frameB k rest ++ r).toArray⟩:ByteArray).size).drop 1=Oc.numB 2 (3+rest.length) ++ (rest ++ r):=by
  rw [sizeL,List.take_length]
  unfold frameB
  simp
 rw [e]
 have:=Oc.numS_read 2 (3+rest.length) (by decide) (by decide) (by omega) (rest ++ r)
 rw [show ((2:Nat):Int)=2 from rfl] at this
 rw [this]
theorem lenS_frame (k:UInt8) (rest r:List UInt8) (hk:k=90∨k=165) (h:3+rest.length<65536) (hf:k=90→3+rest.length≤1024):lenS ⟨(frameB k rest ++ r).toArray⟩=(((3+rest.length:Nat):Int),0):=by
 have hF:hasB ⟨(frameB k rest ++ r).toArray⟩ fH=(k == 90):=hasL 90 k _
 have hR:hasB ⟨(frameB k rest ++ r).toArray⟩ rH=(k == 165):=hasL 165 k _
 have hz:(⟨(frameB k rest ++ r).toArray⟩:ByteArray).size=3+rest.length+r.length:=by rw [sizeL,List.length_append,frameB_length]
 unfold lenS
 rw [toldN_frame k rest r h,hF,hR,hz]
 rw [if_neg (by
  rintro ⟨_,h1,h2⟩
  rcases hk with rfl|rfl
  ·simp at h1
  ·simp at h2),if_neg (by omega),if_neg (by
  rintro (h1|⟨h1,h2⟩)
  ·omega
  ·have:k=90:=by simpa using h1
   have:=hf this
   omega),if_neg (by omega)]
theorem take_frame (k:UInt8) (rest r:List UInt8):(⟨(frameB k rest ++ r).toArray⟩:ByteArray).extract 0 (3+rest.length)=⟨(frameB k rest).toArray⟩:=by
 rw [extract_of,List.drop_zero,←frameB_length k rest,List.take_left]
theorem rest_frame (k:UInt8) (rest:List UInt8):(⟨(frameB k rest).toArray⟩:ByteArray).extract 3 (⟨(frameB k rest).toArray⟩:ByteArray).size=⟨rest.toArray⟩:=by
 rw [extract_of,sizeL,List.take_length]
 have e:(frameB k rest).drop 3=rest:=by
  unfold frameB
  rw [List.drop_succ_cons,List.drop_left' (Oc.numB_length 2 _)]
 rw [e]
theorem notsB_rep (n:Nat):notsB ⟨(List.replicate n (0:UInt8)).toArray⟩=true:=by
 unfold notsB
 refine decide_eq_true ?_
 rw [sizeL,List.length_replicate]
 rfl
theorem get_fill (n:Nat) (r:List UInt8) (h3:3≤n) (h4:n≤1024):getS ⟨(fillB n ++ r).toArray⟩=(fillM n,(n:Int),0):=by
 obtain ⟨k,rfl⟩:∃ k,n=3+k:=⟨n - 3,by omega⟩
 have hl:(List.replicate k (0:UInt8)).length=k:=List.length_replicate
 have hf:fillB (3+k)=frameB 90 (List.replicate k 0):=by unfold fillB;rw [Nat.add_sub_cancel_left]
 have hL:=lenS_frame 90 (List.replicate k 0) r (.inl rfl) (by omega) (fun _=>by omega)
 rw [hl] at hL
 unfold getS
 rw [hf,hL]
 simp only
 rw [if_neg (by decide),Int.toNat_natCast]
 have ht:=take_frame 90 (List.replicate k 0) r
 rw [hl] at ht
 rw [ht]
 have ho:openedS ⟨(frameB 90 (List.replicate k 0)).toArray⟩=(fillM (3+k),0):=by
  unfold openedS
  rw [if_pos (show hasB ⟨(frameB 90 (List.replicate k 0)).toArray⟩ fH=true from hasL 90 90 _),rest_frame,if_pos (notsB_rep k),sizeL,frameB_length,hl]
 rw [ho]
 rfl
theorem get_rec {m:MsgM} (hr:rightB m=true) (hk:m.kind≠0) (r:List UInt8):getS ⟨(recB m ++ r).toArray⟩=(m,((recB m).length:Int),0):=by
 have hp:=packB_le (right_bd hr hk)
 have hl:(Cr.sealB ⟨(packB m).toArray⟩).length=4+(packB m).length:=by rw [Cr.sealB_length,sizeL]
 have hL:=lenS_frame 165 (Cr.sealB ⟨(packB m).toArray⟩) r (.inr rfl) (by omega) (fun h=>by cases h)
 have hlen:(recB m).length=3+(Cr.sealB ⟨(packB m).toArray⟩).length:=frameB_length _ _
 unfold getS
 rw [show recB m=frameB 165 (Cr.sealB ⟨(packB m).toArray⟩) from rfl,hL]
 simp only
 rw [if_neg (by decide),Int.toNat_natCast,take_frame]
 have ho:openedS ⟨(frameB 165 (Cr.sealB ⟨(packB m).toArray⟩)).toArray⟩=(m,0):=by
  unfold openedS
  rw [if_neg (by rw [show hasB ⟨(frameB 165 (Cr.sealB ⟨(packB m).toArray⟩)).toArray⟩ fH=((165:UInt8) == 90) from hasL 90 165 _];decide),rest_frame,if_pos (Cr.sealed_opens _),Cr.sealed_back,if_pos (unpB_pack hr hk),unp_pack (right_bd hr hk)]
 rw [ho,frameB_length]
 rfl
theorem fillM_right (n:Nat) (h4:n≤1024):rightB (fillM n)=true:=by
 have h1:allIn 0 1099511627776 (fillM n).nums=true:=by
  show allIn 0 1099511627776 [0,0,0,0,0,0]=true
  decide
 have h2:notsB (fillM n).body=true:=by
  have:(fillM n).body=⟨(List.replicate n (0:UInt8)).toArray⟩:=rfl
  rw [this]
  exact notsB_rep n
 have h3:(fillM n).body.size≤1024:=by show (nots n).size≤_;rw [nots_size];exact h4
 unfold rightB restB
 rw [h1,if_pos (show (fillM n).kind=0 from rfl),h2,decide_eq_true h3]
 have h5:bareB (fillM n)=true:=by
  unfold bareB fillM
  simp [allIn]
 rw [h5]
 rfl
theorem putO_fill (n:Nat) (h3:3≤n) (h4:n≤1024):putO (fillM n)=some (fillB n):=by
 unfold putO
 rw [if_pos (fillM_right n h4),if_neg (show ¬ (fillM n).kind≠0 from fun h=>h rfl)]
 have:(fillM n).body.size=n:=nots_size n
 rw [this,if_pos h3]
theorem bare_eq {m:MsgM} (h:rightB m=true) (hk:m.kind=0):m=fillM m.body.size:=by
 obtain ⟨f1,f2,f3,f4,f5⟩:=fill_body h hk
 obtain ⟨b1,b2,b3,b4,b5,b6⟩:=bare_bd f3
 obtain ⟨kind,queue,due,retry,ref,born,topic,tag,body,keys⟩:=m
 simp only at *
 have e0:∀ s:ByteArray,s.size=0→s=⟨#[]⟩:=fun s hs=>by
  obtain ⟨l,rfl⟩:=bytesL s
  rw [sizeL] at hs
  rw [List.length_eq_zero_iff.1 hs]
 subst hk b1 b2 b3 b4 f4 f5
 unfold fillM
 rw [e0 _ b5,e0 _ b6,←f2]
theorem put_get {m:MsgM} {s:List UInt8} (h:putO m=some s) (r:List UInt8):getS ⟨(s ++ r).toArray⟩=(m,(s.length:Int),0)∧3≤s.length∧s.length≤1100∧toldN ⟨s.toArray⟩=s.length∧rightB m=true:=by
 unfold putO at h
 by_cases hr:rightB m=true
 ·rw [if_pos hr] at h
  by_cases hk:m.kind=0
  ·rw [if_neg (by simpa using hk)] at h
   by_cases h3:3≤m.body.size
   ·rw [if_pos h3] at h
    obtain rfl:=Option.some.inj h
    have h4:=(fill_body hr hk).1
    have hl:(fillB m.body.size).length=m.body.size:=by
     unfold fillB
     rw [frameB_length,List.length_replicate]
     omega
    have:=get_fill m.body.size r h3 h4
    rw [←bare_eq hr hk] at this
    refine ⟨by rw [hl];exact this,by omega,by omega,?_,hr⟩
    have ht:=toldN_frame 90 (List.replicate (m.body.size - 3) 0) [] (by rw [List.length_replicate];omega)
    rw [List.append_nil,List.length_replicate] at ht
    rw [hl]
    unfold fillB
    rw [ht]
    omega
   ·rw [if_neg h3] at h
    cases h
  ·rw [if_pos hk] at h
   obtain rfl:=Option.some.inj h
   have hp:=packB_le (right_bd hr hk)
   have hlen:(recB m).length=3+(Cr.sealB ⟨(packB m).toArray⟩).length:=frameB_length _ _
   have hl:(Cr.sealB ⟨(packB m).toArray⟩).length=4+(packB m).length:=by rw [Cr.sealB_length,sizeL]
   refine ⟨get_rec hr hk r,by omega,by omega,?_,hr⟩
   have ht:=toldN_frame 165 (Cr.sealB ⟨(packB m).toArray⟩) [] (by omega)
   rw [List.append_nil] at ht
   rw [hlen]
   exact ht
 ·rw [if_neg hr] at h
  cases h
end Go.Proofs.YtajmeimjaapagaaGreatDoor
/- A part. -/
set_option linter.unusedVariables false
set_option linter.unusedSimpArgs false
namespace Go.Proofs.YtajmeimjaapagaaGreatDoor
open Go.RowKit Go.Deep
theorem owns_set {w:World} {base b:Nat} {e:TypeId} {n k:Nat} {v:Value} {xs:List Value} (h:w.ownsRow base e n v k xs) (hb:b<base) (i:Nat) (u:Value):(w.setCell ⟨b,i,none⟩ u).ownsRow base e n v k xs:=by
 obtain ⟨h1,h2⟩:=h
 refine ⟨h1,?_⟩
 rcases h2 with h2|⟨g,cap,cur,rfl,hg,hh,h3⟩
 ·exact .inl h2
 ·exact .inr ⟨g,cap,cur,rfl,hg,(Below.heap_setCell _ _ _ _ (by show g≠b;omega)).trans hh,h3⟩
theorem owns_set10 {w:World} {base P:Nat} {e:TypeId} {n k:Nat} {v:Value} {xs:List Value} (h:w.ownsRow base e n v k xs) (hb:P<base) (c0 c1 c2 c3 c4 c5 c6 c7 c8 c9:Value):(set10 w P c0 c1 c2 c3 c4 c5 c6 c7 c8 c9).ownsRow base e n v k xs:=
 owns_set (owns_set (owns_set (owns_set (owns_set (owns_set (owns_set (owns_set (owns_set (owns_set h hb _ _) hb _ _) hb _ _) hb _ _) hb _ _) hb _ _) hb _ _) hb _ _) hb _ _) hb _ _
theorem owns_form {w:World} {base:Nat} {e:TypeId} {n k:Nat} {v:Value} {xs:List Value} (h:w.ownsRow base e n v k xs):∃ a l c,v = .slice a l c:=by
 rcases h.2 with ⟨rfl,_⟩|⟨g,cap,cur,rfl,_⟩
 ·exact ⟨_,_,_,rfl⟩
 ·exact ⟨_,_,_,rfl⟩
def CopyTo (m:MsgM) (w:World) (e:Ending) (w':World):Prop:=∃ vk,e = .returned (m.val vk)∧w'.ownsRow (w.heap.size+2) 9 1 vk m.keys.length (m.keys.map Value.string)∧Below w.heap.size w w'
set_option maxHeartbeats 2000000 in
set_option maxRecDepth 100000 in
theorem copy_any (m:MsgM) (vk:Value) (w:World) (hk:Strs w 0 vk m.keys) (hn:m.keys.length≤10000):Calls Tryz.prog 47 #[m.val vk] w (CopyTo m w):=by
 obtain ⟨W1,hW1⟩:∃ W,W=(w.alloc (.cells #[.int .i64 m.kind,.int .i64 m.queue,.int .i64 m.due,.int .i64 m.retry,.int .i64 m.ref,.int .i64 m.born,.string m.topic,.string m.tag,.string m.body,vk] 36)).alloc (.cells #[.int .i64 0,.int .i64 0,.int .i64 0,.int .i64 0,.int .i64 0,.int .i64 0,.string ⟨#[]⟩,.string ⟨#[]⟩,.string ⟨#[]⟩,.slice none 0 0] 36):=⟨_,rfl⟩
 have hb1:Below w.heap.size w W1:=by
  rw [hW1]
  exact ((Below.refl w.heap.size w).alloc (Nat.le_refl _) _).alloc (by simp only [World.size_alloc];omega) _
 have hbm:Box W1 w.heap.size #[.int .i64 m.kind,.int .i64 m.queue,.int .i64 m.due,.int .i64 m.retry,.int .i64 m.ref,.int .i64 m.born,.string m.topic,.string m.tag,.string m.body,vk]:=by rw [hW1];exact (Box.new w _).alloc _
 have hbz:Box W1 (w.heap.size+1) zc:=by
  have:=Box.new (w.alloc (.cells (m.cells vk) 36)) zc
  rw [World.size_alloc] at this
  rw [hW1]
  exact this
 have hz1:W1.heap.size=w.heap.size+2:=by rw [hW1,World.size_alloc,World.size_alloc]
 have hown:W1.ownsRow W1.heap.size 9 1 (.slice none 0 0) 0 []:=⟨rfl,.inl ⟨rfl,rfl⟩⟩
 have hst:=hk.below hb1 (Nat.le_refl _)
 have HOWN:=Lib.hid hown
 have HB1:=Lib.hid hb1
 have HST:=Lib.hid hst
 have HW1:=Lib.hid hW1
 have HBM:=Lib.hid hbm
 have HBZ:=Lib.hid hbz
 have HZ1:=Lib.hid hz1
 clear hb1 hown hst hk hW1 hbm hbz hz1
 unfold MsgM.val
 unfold MsgM.cells at *
 go_enter Tryz.func47,Tryz.ntmps47
 go_wp2_with (at_builtin;rw [←HW1.out];go_must (refine Oc.wpList_append_strs rfl _ _ rfl W1.heap.size _ _ 0 [] m.keys rfl rfl HOWN.out HST.out (by omega) (Nat.le_refl _) ?_))
 intro v1 w4 ho hgr
 have hb4:=below_grown (Below.refl W1.heap.size W1) hgr (Nat.le_refl _)
 rw [HZ1.out] at ho
 replace ho:w4.ownsRow (w.heap.size+2) 9 1 v1 m.keys.length (m.keys.map Value.string):=by simpa using ho
 obtain ⟨a4,l4,c4,rfl⟩:=owns_form ho
 have hm4:=HBM.out.below hb4 HBM.out.lt
 have hz4:=HBZ.out.below hb4 HBZ.out.lt
 have HO:=Lib.hid ho
 have HB4:=Lib.hid (HB1.out.trans (hb4.mono HB1.out.size))
 have HM4:=Lib.hid hm4
 have HZ4:=Lib.hid hz4
 have kc:=hm4.cell
 have kf:=hm4.free
 have zcc:=hz4.cell
 have zf:=hz4.free
 simp only [zc] at zcc
 clear ho hgr hb4 hm4 hz4
 go_wp2_with fail
 obtain ⟨W,hW⟩:∃ W,W=set10 (w4.setCell ⟨w.heap.size,9,none⟩ (.slice a4 l4 c4)) (w.heap.size+1) (.int .i64 m.kind) (.int .i64 m.queue) (.int .i64 m.due) (.int .i64 m.retry) (.int .i64 m.ref) (.int .i64 m.born) (.string m.topic) (.string m.tag) (.string m.body) (.slice a4 l4 c4):=⟨_,rfl⟩
 have hbx:Box W (w.heap.size+1) #[.int .i64 m.kind,.int .i64 m.queue,.int .i64 m.due,.int .i64 m.retry,.int .i64 m.ref,.int .i64 m.born,.string m.topic,.string m.tag,.string m.body,.slice a4 l4 c4]:=by rw [hW];exact box_set10 (HZ4.out.setO (by omega) 9 (.slice a4 l4 c4)) (.int .i64 m.kind) (.int .i64 m.queue) (.int .i64 m.due) (.int .i64 m.retry) (.int .i64 m.ref) (.int .i64 m.born) (.string m.topic) (.string m.tag) (.string m.body) (.slice a4 l4 c4)
 have hbl:Below w.heap.size w W:=by rw [hW];exact below_set10 (HB4.out.setCell (Nat.le_refl _) (.slice a4 l4 c4)) (Nat.le_succ _) (.int .i64 m.kind) (.int .i64 m.queue) (.int .i64 m.due) (.int .i64 m.retry) (.int .i64 m.ref) (.int .i64 m.born) (.string m.topic) (.string m.tag) (.string m.body) (.slice a4 l4 c4)
 have hst:W.ownsRow (w.heap.size+2) 9 1 (.slice a4 l4 c4) m.keys.length (m.keys.map Value.string):=by rw [hW];exact owns_set10 (owns_set HO.out (by omega) 9 (.slice a4 l4 c4)) (by omega) (.int .i64 m.kind) (.int .i64 m.queue) (.int .i64 m.due) (.int .i64 m.retry) (.int .i64 m.ref) (.int .i64 m.born) (.string m.topic) (.string m.tag) (.string m.body) (.slice a4 l4 c4)
 unfold set10 at hW
 rw [←hW]
 have hpm:=Box.cell hbx
 exact bodyPost_ret (v:=m.val (.slice a4 l4 c4)) (by simp [results,Tryz.results47,go_sem,hpm,MsgM.val,MsgM.cells]) rfl ⟨_,rfl,hst,hbl⟩
end Go.Proofs.YtajmeimjaapagaaGreatDoor
