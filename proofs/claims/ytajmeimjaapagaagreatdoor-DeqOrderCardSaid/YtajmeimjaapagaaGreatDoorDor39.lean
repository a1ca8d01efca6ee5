/- A part. -/
import Derived.Lib.AtoiErrMem
import Derived.Test.YtajmeimjaapagaaGreatDoorDor22
import Derived.Test.YtajmeimjaapagaaGreatDoorDor25
set_option linter.unusedVariables false
set_option linter.unusedSimpArgs false
namespace Go.Proofs.YtajmeimjaapagaaGreatDoor
open Go.RowKit Go.Deep
abbrev Tab10 (w : World) : Prop := Lib.TabIs Tryz.prog w "internal/strconv.uint64pow10" .u64 Lib.pow10Tab
theorem itoa_any (u:Nat) (hu:u≤99999999) (w:World) (ht:Tab10 w):Calls Tryz.prog 179 #[.int .i64 u] w fun e w'=>e = .returned (.string ⟨(Lib.decDigits u).toArray⟩)∧Below w.heap.size w w':=by
 refine (Tryz.strconv_Itoa u (by omega) (by omega) w ht).mono ?_
 rintro e w' ⟨rfl,k,os,rfl⟩
 refine ⟨?_,Go.Proofs.below_grown w k os⟩
 have:Lib.itoa (u:Int)=Lib.decDigits u:=by
  unfold Lib.itoa
  rw [if_neg (by omega)]
  rfl
 rw [this]
theorem repeat_any (t:ByteArray) (h:t.size≤8) (w:World):Calls Tryz.prog 161 #[.string ⟨#[48]⟩,.int .i64 (8 - (t.size:Int))] w fun e w'=>e = .returned (.string ⟨(Lib.repeatL [48] (8 - t.size)).toArray⟩)∧Below w.heap.size w w':=by
 have e:(8 - (t.size:Int))=((8 - t.size:Nat):Int):=by omega
 rw [e]
 have hs:(⟨#[48]⟩:ByteArray).size=1:=rfl
 exact (Tryz.strings_Repeat ⟨#[48]⟩ (8 - t.size) w (by omega) (by rw [hs];omega)).mono fun e w' hh=>hh
set_option maxRecDepth 100000 in
theorem name_bad (head:ByteArray) (p:Int) (w:World) (h:p<0∨99999999<p) :
 Calls Tryz.prog 134 #[.string head,.int .i64 p] w fun e w'=>e = .returned (.tuple #[.string ⟨#[]⟩,.bool false])∧w=w':=by
 by_cases h0:p<0
 ·go_enter Tryz.func134,Tryz.ntmps134
  go_wp2_with fail
  go_ret2
  exact ⟨rfl,rfl⟩
 ·have h1:99999999<p:=by omega
  go_enter Tryz.func134,Tryz.ntmps134
  go_wp2_with fail
  go_ret2
  exact ⟨rfl,rfl⟩
theorem cat_name (head t r:ByteArray) (u:Nat) (hu:u<100000000) (ht:t=⟨(Lib.decDigits u).toArray⟩) (hr:r=⟨(Lib.repeatL [48] (8 - t.size)).toArray⟩):head ++ r ++ t=nameB head u:=by
 have hs:t.size=(Lib.decDigits u).length:=by rw [ht];show (Lib.decDigits u).toArray.size=_;simp
 unfold nameB
 rw [ByteArray.append_assoc]
 congr 1
 rw [hr,hs,ht,append_toArray,pad_dec8 u hu]
set_option maxRecDepth 100000 in
theorem name_ok (head:ByteArray) (u:Nat) (hu:u≤99999999) (hh:head.size≤1099511627776) (w:World) (ht:Tab10 w) :
 Calls Tryz.prog 134 #[.string head,.int .i64 u] w fun e w'=>e = .returned (.tuple #[.string (nameB head u),.bool true])∧Below w.heap.size w w':=by
 have hI:=itoa_any u hu w ht
 obtain ⟨t,htq⟩:∃ t:ByteArray,t=⟨(Lib.decDigits u).toArray⟩:=⟨_,rfl⟩
 have hl:t.size≤8:=by
  rw [htq]
  show (Lib.decDigits u).toArray.size≤8
  rw [List.size_toArray,Lib.decDigits_length]
  exact nDigits_le8 u (by omega)
 rw [←htq] at hI
 have HI:=Lib.hid hI
 have HT:=Lib.hid htq
 clear hI htq ht
 go_enter Tryz.func134,Tryz.ntmps134
 go_wp2_with (go_at_call 179;refine HI.out.mono ?_)
 rintro e w1 ⟨rfl,hb1⟩
 have hR:=repeat_any t hl w1
 obtain ⟨r,hr⟩:∃ r:ByteArray,r=⟨(Lib.repeatL [48] (8 - t.size)).toArray⟩:=⟨_,rfl⟩
 have hrl:r.size≤8:=by
  rw [hr]
  show (Lib.repeatL [48] (8 - t.size)).toArray.size≤8
  rw [List.size_toArray,repeat_zero,List.length_replicate]
  omega
 rw [←hr] at hR
 have HR:=Lib.hid hR
 have HRQ:=Lib.hid hr
 have HB1:=Lib.hid hb1
 clear hR hr hb1
 go_wp2_with (go_at_call 161;refine HR.out.mono ?_)
 rintro e w2 ⟨rfl,hb2⟩
 go_wp2_with fail
 go_ret2
 refine ⟨?_,HB1.out.trans (hb2.mono HB1.out.size)⟩
 rw [cat_name head t r u (by omega) HT.out HRQ.out]
 rfl
set_option maxRecDepth 100000 in
theorem nodig_any (r:Nat) (w:World):Calls Tryz.prog 194 #[.int .i32 (r:Int)] w fun e w'=>e = .returned (.bool (noDig r))∧∃ q,w'=w.drewN q:=by
 unfold noDig
 by_cases h0:r<48
 ·go_enter Tryz.func194,Tryz.ntmps194
  go_wp2_with fail
  go_ret
  refine ⟨?_,0,rfl⟩
  simp [h0]
 ·by_cases h1:57<r
  ·go_enter Tryz.func194,Tryz.ntmps194
   go_wp2_with fail
   go_ret
   refine ⟨?_,0,rfl⟩
   have h2:¬ ((r:Int)<48):=by omega
   have h3:(57:Int)<(r:Int):=by omega
   simp [h0,h1,h2,h3]
  ·go_enter Tryz.func194,Tryz.ntmps194
   go_wp2_with fail
   go_ret
   refine ⟨?_,0,rfl⟩
   have h2:¬ ((r:Int)<48):=by omega
   have h3:¬ (57:Int)<(r:Int):=by omega
   simp only [h0,h1,h2,h3]
   rfl
theorem contains_any (s:ByteArray) (w:World):Calls Tryz.prog 193 #[.string s,.func (.func 194) #[] #[]] w fun e w'=>e = .returned (.bool (decide (0≤Lib.idxFunc noDig true s)))∧Below w.heap.size w w':=
 Tryz.strings_ContainsFunc 194 #[] (Go.Proofs.enters_of Tryz.func194 (by kernel_rfl) rfl) noDig s w (fun W x _=>(nodig_any x W).mono fun e w' hh=>hh)
theorem atoi_any (s:ByteArray) (h8:s.size=8) (hd:∀ b∈s.data.toList,isDig b) (w:World):Calls Tryz.prog 195 #[.string s] w fun e w'=>e = .returned (.tuple #[.int .i64 (val8 s.data.toList),.nilIface])∧Below w.heap.size w w':=by
 refine (Tryz.strconv_Atoi s (val8 s.data.toList) (by omega) (atoi_val (by rw [Array.length_toList];exact h8) hd) w).mono ?_
 rintro e w' ⟨rfl,t,rfl⟩
 exact ⟨rfl,Lib.bytesWorld_below ..⟩
def PlaceTo (head s:ByteArray) (w:World) (e:Ending) (w':World):Prop:=
 e = .returned (.tuple #[.int .i64 (((placeB head s).getD 0:Nat):Int),.bool (placeB head s).isSome])∧Below w.heap.size w w'
set_option maxRecDepth 100000 in
theorem place_any (head s:ByteArray) (w:World) (hs:s.size≤1099511627776):Calls Tryz.prog 151 #[.string head,.string s] w (PlaceTo head s w):=by
 have hC:∀ w,_:=fun w=>Tryz.strings_CutPrefix s head w
 obtain ⟨t,ht⟩:∃ t:ByteArray,t=⟨(Lib.trimPrefix s.data.toList head.data.toList).toArray⟩:=⟨_,rfl⟩
 have htl:t.data.toList=Lib.trimPrefix s.data.toList head.data.toList:=by rw [ht]
 rw [←ht] at hC
 obtain ⟨p,hp⟩:∃ p,p=Lib.hasPrefix s.data.toList head.data.toList:=⟨_,rfl⟩
 rw [←hp] at hC
 have hts:t.size≤1099511627776:=by
  have h1:(Lib.trimPrefix s.data.toList head.data.toList).length≤s.data.toList.length:=by
   unfold Lib.trimPrefix
   split
   ·simp
   ·exact Nat.le_refl _
  rw [ht]
  show (Lib.trimPrefix s.data.toList head.data.toList).toArray.size≤_
  rw [List.size_toArray]
  refine Nat.le_trans h1 ?_
  rw [Array.length_toList]
  exact hs
 have htz:(Lib.trimPrefix s.data.toList head.data.toList).length=t.size:=by rw [←htl,Array.length_toList];rfl
 have HC:=Lib.hid hC
 have HP:=Lib.hid hp
 have HTL:=Lib.hid htl
 have HTZ:=Lib.hid htz
 clear hC ht htl htz hp
 cases p with
 | false=>
  have hN:placeB head s=none:=by unfold placeB;rw [if_neg (by rw [←HP.out];simp)]
  have HN:=Lib.hid hN
  clear hN
  go_enter Tryz.func151,Tryz.ntmps151
  go_wp2_with (go_at_call 192;refine (HC.out _).mono ?_;rintro e w1 ⟨rfl,hw⟩)
  have hw':w1=w:=hw
  subst hw'
  go_wp2_with fail
  go_ret2
  exact ⟨by rw [HN.out];rfl,Below.refl _ _⟩
 | true=>
  by_cases h8:t.size=8
  ·have H8:=Lib.hid h8
   by_cases hd:∀ b∈t.data.toList,isDig b
   ·have hY:placeB head s=some (val8 t.data.toList):=by
     unfold placeB
     rw [if_pos HP.out.symm]
     simp only
     rw [if_pos ⟨HTZ.out.trans H8.out,fun b hb=>hd b (by rw [HTL.out];exact hb)⟩,HTL.out]
    have hK:decide (0≤Lib.idxFunc noDig true t)=false:=by rw [idx_dig t hd];rfl
    have hF:=fun w=>contains_any t w
    rw [hK] at hF
    have hA:=fun w=>atoi_any t h8 hd w
    have HY:=Lib.hid hY
    have HF:=Lib.hid hF
    have HA:=Lib.hid hA
    have h8':(t.size:Int)=8:=by omega
    obtain ⟨z,hz⟩:∃ z:Int,z=(t.size:Int):=⟨_,rfl⟩
    clear hY hK hF hA hd h8
    go_enter Tryz.func151,Tryz.ntmps151
    go_wp2_with (go_at_call 192;refine (HC.out _).mono ?_;rintro e w1 ⟨rfl,hw⟩)
    have hw':w1=w:=hw
    subst hw'
    go_wp2_with (go_at_call 193;refine (HF.out _).mono ?_)
    rintro e w2 rfl hb2
    have HB2:=Lib.hid hb2
    clear hb2
    go_wp2_with (go_at_call 195;refine (HA.out _).mono ?_)
    rintro e w3 ⟨rfl,hb3⟩
    have HB3:=Lib.hid hb3
    clear hb3
    go_wp2_with fail
    go_quiet (fail)
    go_wp2_with fail
    go_ret2
    refine ⟨by rw [HY.out];rfl,?_⟩
    exact below_drewN (HB2.out.trans (HB3.out.mono HB2.out.size)) _
   ·have hN:placeB head s=none:=by
     unfold placeB
     rw [if_pos HP.out.symm]
     simp only
     rw [if_neg]
     rintro ⟨_,h2⟩
     exact hd fun b hb=>h2 b (by rw [←HTL.out];exact hb)
    have hK:decide (0≤Lib.idxFunc noDig true t)=true:=by
     rcases Lib.idxFunc_range noDig true t with h|⟨h,_⟩
     ·exact absurd (dig_idx t h) hd
     ·exact decide_eq_true h
    have hF:=fun w=>contains_any t w
    rw [hK] at hF
    have HN:=Lib.hid hN
    have HF:=Lib.hid hF
    have h8':(t.size:Int)=8:=by omega
    clear hN hK hF hd h8
    go_enter Tryz.func151,Tryz.ntmps151
    go_wp2_with (go_at_call 192;refine (HC.out _).mono ?_;rintro e w1 ⟨rfl,hw⟩)
    have hw':w1=w:=hw
    subst hw'
    go_wp2_with (go_at_call 193;refine (HF.out _).mono ?_)
    rintro e w2 rfl hb2
    go_wp2_with fail
    go_ret2
    exact ⟨by rw [HN.out];rfl,hb2⟩
  ·have hN:placeB head s=none:=by
    unfold placeB
    rw [if_pos HP.out.symm]
    simp only
    rw [if_neg]
    rintro ⟨h1,_⟩
    exact h8 (HTZ.out.symm.trans h1)
   have HN:=Lib.hid hN
   have h8':((t.size:Int) != 8)=true:=by simp;omega
   clear hN h8
   go_enter Tryz.func151,Tryz.ntmps151
   go_wp2_with (go_at_call 192;refine (HC.out _).mono ?_;rintro e w1 ⟨rfl,hw⟩)
   have hw':w1=w:=hw
   subst hw'
   go_wp2_with fail
   go_ret2
   exact ⟨by rw [HN.out];rfl,Below.refl _ _⟩
end Go.Proofs.YtajmeimjaapagaaGreatDoor
