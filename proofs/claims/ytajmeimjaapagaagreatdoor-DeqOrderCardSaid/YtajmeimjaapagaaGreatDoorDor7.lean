/- A part. -/
import Derived.Test.YtajmeimjaapagaaGreatDoorDor1
import Derived.Test.YtajmeimjaapagaaGreatDoorDor6
set_option linter.unusedVariables false
set_option linter.unusedSimpArgs false
namespace Go.Proofs.YtajmeimjaapagaaGreatDoor.Cr
open Go.RowKit Go.Deep
theorem and_one (x:Nat) (h:x<4294967296):bits .and .u32 (x:Int) 1=((x % 2:Nat):Int):=by
 have:=u32_and_nat x 1 h (by omega)
 rw [nat_mask1] at this
 exact this
theorem xor_poly (x:Nat) (h:x<4294967296):bits .xor .u32 ((x:Int) / 2) 3988292384=((x / 2 ^^^ 3988292384:Nat):Int):=
 u32_xor_nat (x / 2) 3988292384 (by omega) (by omega)
theorem bit_any (r:Nat) (w:World) (hr:r<4294967296):Calls Tryz.prog 154 #[.int .u32 r] w fun e w'=>e = .returned (.int .u32 (itr 8 r:Nat))∧w=w':=by
 go_enter Tryz.func154,Tryz.ntmps154
 go_wp2_with fail
 go_loop [0,4] (fun x i=>∃ k:Nat,k≤8∧i = .int .i64 k∧x = .int .u32 ((itr k r:Nat):Int)) (fun _ i=>8 - (intOf i).toNat)
 case atStart=>exact ⟨0,by omega,rfl,rfl⟩
 case round=>
  obtain ⟨k,hk,rfl,rfl⟩:=hrel
  by_cases hlt:k<8
  ·have hl:=itr_lt k hr
   have hs:=itr_succ k r
   obtain ⟨x,hx⟩:∃ x,x=itr k r:=⟨_,rfl⟩
   rw [←hx] at hl hs ⊢
   have h1:=and_one x hl
   have h2:=xor_poly x hl
   have HX:=Lib.hid hx
   clear hx
   by_cases ho:x % 2=1
   ·rw [stp_odd ho] at hs
    have hb:(bits .and .u32 (x:Int) 1 == 1)=true:=by rw [h1,ho];rfl
    have HS:=Lib.hid hs
    clear hs h1 ho
    go_wp2_with fail
    exact ⟨⟨k+1,by omega,by go_num,by rw [HS.out]⟩,by simp [intOf];omega⟩
   ·rw [stp_even ho] at hs
    have hb:(bits .and .u32 (x:Int) 1 == 1)=false:=by rw [h1,beq_eq_false_iff_ne];omega
    have HS:=Lib.hid hs
    clear hs h1 ho
    go_wp2_with fail
    exact ⟨⟨k+1,by omega,by go_num,by rw [HS.out];rfl⟩,by simp [intOf];omega⟩
  ·obtain rfl:k=8:=by omega
   go_wp2_with fail
   go_ret
   exact ⟨rfl,rfl⟩
def cellT (i:Nat):Nat:=itr (8*(i / 256+1)) (i % 256)
def Tab (w:World) (b:Nat):Prop:=w.rowIs b 176 1024 fun i=>.int .u32 (cellT i:Nat)
theorem cellT_lt (i:Nat):cellT i<4294967296:=itr_lt _ (by omega)
theorem cellT_at (k b:Nat) (hb:b<256):cellT (k*256+b)=itr (8*(k+1)) b:=by
 unfold cellT
 rw [show (k*256+b) / 256=k by omega,show (k*256+b) % 256=b by omega]
theorem Tab.cell {w:World} {b:Nat} (h:Tab w b) {i:Nat} (hi:i<1024):w.cell? ⟨b,i,none⟩=some (.int .u32 (cellT i:Nat)):=World.rowIs.cell h hi
theorem Tab.cellk {w:World} {b:Nat} (h:Tab w b) (k:Nat) {i:Nat} (hk:k<4) (hi:i<256):w.cell? ⟨b,k*256+i,none⟩=some (.int .u32 (itr (8*(k+1)) i:Nat)):=by
 rw [h.cell (by omega),cellT_at k i hi]
theorem byte_xor (r c:Nat) (hc:c<256):bits .xor .u8 ((r:Int) % 256) (c:Int)=((r % 256 ^^^ c:Nat):Int):=u8_xor_nat (r % 256) c (by omega) hc
theorem byte_xor_lt (r c:Nat) (hc:c<256):r % 256 ^^^ c<256:=Nat.xor_lt_two_pow (n:=8) (by omega) hc
set_option maxRecDepth 100000 in
theorem step_at (b r c:Nat) (w:World) (hr:r<4294967296) (hc:c<256) (h0:w.cell? ⟨b,r % 256 ^^^ c,none⟩=some (.int .u32 (itr 8 (r % 256 ^^^ c):Nat))):Calls Tryz.prog 155 #[.pointer (some ⟨b,0,none⟩),.int .u32 r,.int .u8 c] w fun e w'=>e = .returned (.int .u32 (bstep r c:Nat))∧w=w':=by
 have hx:=byte_xor_lt r c hc
 have h1:=byte_xor r c hc
 have hb:=bstep_tab r c hc
 obtain ⟨x,hxx⟩:∃ x,x=r % 256 ^^^ c:=⟨_,rfl⟩
 rw [←hxx] at hx h0 h1 hb
 have hl:=itr_lt (r:=x) 8 (by omega)
 obtain ⟨y,hyy⟩:∃ y,y=itr 8 x:=⟨_,rfl⟩
 rw [←hyy] at h0 hb hl
 have h2:bits .xor .u32 ((r:Int) / 256) (y:Int)=((r / 256 ^^^ y:Nat):Int):=u32_xor_nat (r / 256) y (by omega) hl
 have HB:=Lib.hid hb
 clear hxx hyy hb
 go_enter Tryz.func155,Tryz.ntmps155
 go_wp2_with fail
 go_ret
 exact ⟨by rw [HB.out];rfl,rfl⟩
theorem step_any (b r c:Nat) (w:World) (hr:r<4294967296) (hc:c<256) (h:Tab w b):Calls Tryz.prog 155 #[.pointer (some ⟨b,0,none⟩),.int .u32 r,.int .u8 c] w fun e w'=>e = .returned (.int .u32 (bstep r c:Nat))∧w=w':=
 step_at b r c w hr hc (by
  have:=h.cellk 0 (by omega) (byte_xor_lt r c hc)
  rwa [Nat.zero_mul,Nat.zero_add,Nat.zero_add,Nat.mul_one] at this)
theorem wrap_xor (r c:Nat) (hc:c<256):bits .xor .u8 (IntKind.u8.wrap (r:Int)) (c:Int)=((r % 256 ^^^ c:Nat):Int):=by
 rw [IntKind.wrap_u8']
 exact byte_xor r c hc
theorem take4 (s:ByteArray) (hs:4≤s.size):s.data.toList.take 4=[s[0],s[1],s[2],s[3]]:=by
 have hl:s.data.toList.length=s.size:=by simp
 have h:=List.take_append_drop 4 s.data.toList
 apply List.ext_getElem
 ·simp [hl];omega
 ·intro i h1 h2
  have:i<4:=by simpa using h2
  match i,this with
  | 0,_=>simp;rfl
  | 1,_=>simp;rfl
  | 2,_=>simp;rfl
  | 3,_=>simp;rfl
set_option maxRecDepth 100000 in
theorem leap_any (b r:Nat) (s:ByteArray) (w:World) (hr:r<4294967296) (hs:4≤s.size) (h:Tab w b):Calls Tryz.prog 239 #[.pointer (some ⟨b,0,none⟩),.int .u32 r,.string s] w fun e w'=>e = .returned (.int .u32 (regL r (s.data.toList.take 4):Nat))∧∃ k,w'=w.drewN k:=by
 have hs0:0<s.size:=by omega
 have hs1:1<s.size:=by omega
 have hs2:2<s.size:=by omega
 have hs3:3<s.size:=by omega
 have HE:=Lib.hid (leap_eq r s[0].toNat s[1].toNat s[2].toNat s[3].toNat hr s[0].toNat_lt s[1].toNat_lt s[2].toNat_lt s[3].toNat_lt)
 have hT:=take4 s hs
 have HT:Hid (regL r (s.data.toList.take 4)=bstep (bstep (bstep (bstep r s[0].toNat) s[1].toNat) s[2].toNat) s[3].toNat):=Lib.hid (by rw [hT];rfl)
 have h0:=wrap_xor r _ s[0].toNat_lt
 have h1:bits .xor .u8 (IntKind.u8.wrap ((r:Int) / 256)) (s[1].toNat:Int)=_:=wrap_xor (r / 256) _ s[1].toNat_lt
 have h2:bits .xor .u8 (IntKind.u8.wrap ((r:Int) / 65536)) (s[2].toNat:Int)=_:=wrap_xor (r / 65536) _ s[2].toNat_lt
 have h3:bits .xor .u8 (IntKind.u8.wrap ((r:Int) / 16777216)) (s[3].toNat:Int)=_:=wrap_xor (r / 16777216) _ s[3].toNat_lt
 have b0:=byte_xor_lt r _ s[0].toNat_lt
 have b1:=byte_xor_lt (r / 256) _ s[1].toNat_lt
 have b2:=byte_xor_lt (r / 65536) _ s[2].toNat_lt
 have b3:=byte_xor_lt (r / 16777216) _ s[3].toNat_lt
 have c0:=h.cellk 3 (by omega) b0
 have c1:=h.cellk 2 (by omega) b1
 have c2:=h.cellk 1 (by omega) b2
 have c3:=h.cellk 0 (by omega) b3
 have HT2:=HT.out.trans HE.out
 clear HE hT HT h
 generalize r % 256 ^^^ s[0].toNat=x0 at *
 generalize r / 256 % 256 ^^^ s[1].toNat=x1 at *
 generalize r / 65536 % 256 ^^^ s[2].toNat=x2 at *
 generalize r / 16777216 % 256 ^^^ s[3].toNat=x3 at *
 simp only [Nat.reduceMul,Nat.reduceAdd,Nat.zero_add] at c0 c1 c2 c3
 have l0:=itr_lt (r:=x0) 32 (by omega)
 have l1:=itr_lt (r:=x1) 24 (by omega)
 have l2:=itr_lt (r:=x2) 16 (by omega)
 have l3:=itr_lt (r:=x3) 8 (by omega)
 generalize itr 32 x0=y0 at *
 generalize itr 24 x1=y1 at *
 generalize itr 16 x2=y2 at *
 generalize itr 8 x3=y3 at *
 have e1:=u32_xor_nat y0 y1 l0 l1
 have m1:y0 ^^^ y1<4294967296:=Nat.xor_lt_two_pow (n:=32) l0 l1
 have e2:=u32_xor_nat _ y2 m1 l2
 have m2:y0 ^^^ y1 ^^^ y2<4294967296:=Nat.xor_lt_two_pow (n:=32) m1 l2
 have e3:=u32_xor_nat _ y3 m2 l3
 have HT:=Lib.hid HT2
 have n1:(1:Int)<(s.size:Int):=by omega
 have n2:(2:Int)<(s.size:Int):=by omega
 have n3:(3:Int)<(s.size:Int):=by omega
 have i0:(x0:Int)<256:=by omega
 have i1:(x1:Int)<256:=by omega
 have i2:(x2:Int)<256:=by omega
 have i3:(x3:Int)<256:=by omega
 clear HT2
 go_enter Tryz.func239,Tryz.ntmps239
 go_wp2_with fail
 go_quiet (fail)
 go_wp2
 go_ret
 exact ⟨by rw [HT.out];rfl,_,rfl⟩
theorem Tab.drewN {w:World} {b:Nat} (h:Tab w b) (n:Nat):Tab (w.drewN n) b:=h
theorem regL_split (c:Nat) (s:ByteArray) (k:Nat):regL c s.data.toList=regL (regL c (s.data.toList.take k)) (s.data.toList.drop k):=by
 rw [←regL_append,List.take_append_drop]
theorem drop_list (s:ByteArray) (k:Nat):(s.extract k s.size).data.toList=s.data.toList.drop k:=by
 rw [ByteArray.data_extract,Array.toList_extract,List.extract_eq_take_drop,List.take_of_length_le (by simp)]
set_option maxRecDepth 100000 in
set_option maxHeartbeats 1000000 in
theorem over_any (b r:Nat) (s:ByteArray) (w:World) (hr:r<4294967296) (hs:s.size≤maxLen) (h:Tab w b):Calls Tryz.prog 211 #[.pointer (some ⟨b,0,none⟩),.int .u32 r,.string s] w fun e w'=>e = .returned (.int .u32 (regL r s.data.toList:Nat))∧∃ k,w'=w.drewN k:=by
 unfold maxLen at hs
 have H:=Lib.hid h
 clear h
 obtain ⟨R,hR⟩:∃ R,R=regL r s.data.toList:=⟨_,rfl⟩
 rw [←hR]
 have HR:=Lib.hid hR
 clear hR
 go_enter Tryz.func211,Tryz.ntmps211
 go_wp2_with fail
 go_loopw [1,2] (fun x y wr=>∃ (c:Nat) (t:ByteArray) (n:Nat),x = .int .u32 (c:Nat)∧y = .string t∧c<4294967296∧t.size≤s.size∧regL c t.data.toList=R∧wr=w.drewN n) (fun _ y _=>match y with | .string t=>t.size|_=>0)
 case atStart=>exact ⟨r,s,0,rfl,rfl,hr,Nat.le_refl _,HR.out.symm,rfl⟩
 case round=>
  obtain ⟨c,t,n,rfl,rfl,hc,hts,hreg,rfl⟩:=hrel
  have HREG:=Lib.hid hreg
  clear hreg
  by_cases hlt:4≤t.size
  ·go_wp2_with fail
   refine (leap_any b c t _ hc hlt (H.out.drewN n)).mono ?_
   rintro e w1 ⟨rfl,d,rfl⟩
   have HREG2:Hid (regL (regL c (t.data.toList.take 4)) (t.data.toList.drop 4)=R):=Lib.hid (by rw [←regL_split];exact HREG.out)
   have hc2:=regL_lt hc (t.data.toList.take 4)
   obtain ⟨c2,hc2e⟩:∃ c2,c2=regL c (t.data.toList.take 4):=⟨_,rfl⟩
   rw [←hc2e] at hc2 ⊢
   have HC2:=Lib.hid hc2e
   clear hc2e
   go_wp2_with fail
   refine ⟨⟨c2,t.extract 4 t.size,n+d,rfl,rfl,hc2,?_,?_,rfl⟩,?_⟩
   ·simp [ByteArray.size_extract];omega
   ·rw [drop_list,HC2.out];exact HREG2.out
   ·simp [ByteArray.size_extract];omega
  ·go_wp2_with fail
   go_loop [1,19] (fun x i=>∃ k:Nat,k≤t.size∧i = .int .i64 k∧x = .int .u32 (regL c (t.data.toList.take k):Nat)) (fun _ i=>t.size - (intOf i).toNat)
   case atStart=>exact ⟨0,Nat.zero_le _,rfl,rfl⟩
   case round=>
    obtain ⟨k,hk,rfl,rfl⟩:=hrel
    by_cases hkt:k<t.size
    ·have hcc:=regL_lt hc (t.data.toList.take k)
     have hsn:=regL_snoc c (t.data.toList.take k) t[k]
     rw [←take_snoc t k hkt] at hsn
     obtain ⟨q,hq⟩:∃ q,q=regL c (t.data.toList.take k):=⟨_,rfl⟩
     rw [←hq] at hcc hsn ⊢
     have HSN:=Lib.hid hsn
     have HQ:=Lib.hid hq
     have hb:=t[k].toNat_lt
     clear hsn hq
     go_wp2_with fail
     refine (step_any b q t[k].toNat _ hcc hb (H.out.drewN n)).mono ?_
     rintro e w1 ⟨rfl,rfl⟩
     go_wp2_with fail
     exact ⟨⟨k+1,by omega,by go_num,by rw [HSN.out]⟩,by simp [intOf];omega⟩
    ·obtain rfl:k=t.size:=by omega
     have hreg:=HREG.out
     go_wp2_with fail
     go_ret
     refine ⟨?_,n,rfl⟩
     rw [List.take_of_length_le (by simp)]
     rw [←HREG.out]
     rfl
def flatB (ts:List ByteArray):List UInt8:=ts.flatMap fun t=>t.data.toList
theorem flatB_snoc (ts:List ByteArray) {k:Nat} (h:k<ts.length):flatB (ts.take (k+1))=flatB (ts.take k) ++ (ts.getD k ⟨#[]⟩).data.toList:=by
 unfold flatB
 rw [take_snoc' ts h,List.flatMap_append,List.flatMap_singleton]
theorem flatB_one (t:ByteArray):flatB [t]=t.data.toList:=by simp [flatB]
theorem not_val (q:Nat) (hq:q<4294967296):wrap64 (bits .xor .u32 IntKind.u32.max (q:Int))=((4294967295 - q:Nat):Int):=by
 have h:bits .xor .u32 IntKind.u32.max (q:Int)=((4294967295 ^^^ q:Nat):Int):=u32_xor_nat 4294967295 q (by omega) hq
 rw [h,←ones_sub hq]
 exact IntWalk.wrap64_in _ ⟨by omega,by omega⟩
set_option maxRecDepth 100000 in
set_option maxHeartbeats 1000000 in
theorem sum_any (b:Nat) (v:Value) (ts:List ByteArray) (w:World) (h:Tab w b) (hv:Strs w 0 v ts) (hl:ts.length≤maxLen) (hs:∀ t∈ts,t.size≤maxLen):Calls Tryz.prog 182 #[.pointer (some ⟨b,0,none⟩),v] w fun e w'=>e = .returned (.int .i64 (crcL (flatB ts):Nat))∧∃ k,w'=w.drewN k:=by
 unfold maxLen at hl
 have H:=Lib.hid h
 have HS:=Lib.hid hs
 have HV:=Lib.hid hv
 obtain ⟨a,cap,rfl⟩:=hv.form
 clear h hs hv
 go_enter Tryz.func182,Tryz.ntmps182
 go_wp2_with fail
 go_loopw [5,12] (fun x i wr=>∃ (k n:Nat),k≤ts.length∧i = .int .i64 k∧x = .int .u32 (regL 4294967295 (flatB (ts.take k)):Nat)∧wr=w.drewN n) (fun _ i _=>ts.length - (intOf i).toNat)
 case atStart=>exact ⟨0,0,Nat.zero_le _,rfl,rfl,rfl⟩
 case round=>
  obtain ⟨k,n,hk,rfl,rfl,rfl⟩:=hrel
  have hc:=regL_lt (r:=4294967295) (by decide) (flatB (ts.take k))
  by_cases hlt:k<ts.length
  ·obtain ⟨b1,o1,rfl,hck⟩:=HV.out.cellAt hlt
   have hsn:=flatB_snoc ts hlt
   have hts:=HS.out (ts.getD k ⟨#[]⟩) (by simp [List.getD_eq_getElem?_getD,List.getElem?_eq_getElem hlt])
   obtain ⟨t,ht⟩:∃ t,t=ts.getD k ⟨#[]⟩:=⟨_,rfl⟩
   obtain ⟨q,hq⟩:∃ q,q=regL 4294967295 (flatB (ts.take k)):=⟨_,rfl⟩
   rw [←ht] at hck hsn hts
   rw [←hq] at hc ⊢
   have HSN:Hid (regL 4294967295 (flatB (ts.take (k+1)))=regL q t.data.toList):=Lib.hid (by rw [hsn,regL_append,hq])
   have HT:=Lib.hid ht
   have HQ:=Lib.hid hq
   have HTS:=Lib.hid hts
   clear hsn ht hq hts
   go_wp2_with fail
   refine (over_any b q t _ hc HTS.out (H.out.drewN n)).mono ?_
   rintro e w1 ⟨rfl,d,rfl⟩
   go_wp2_with fail
   exact ⟨⟨k+1,n+d,by omega,by go_num,by rw [HSN.out],rfl⟩,by simp [intOf];omega⟩
  ·obtain rfl:k=ts.length:=by omega
   rw [List.take_of_length_le (Nat.le_refl _)] at hc ⊢
   obtain ⟨q,hq⟩:∃ q,q=regL 4294967295 (flatB ts):=⟨_,rfl⟩
   rw [←hq] at hc ⊢
   have HQ:Hid (crcL (flatB ts)=4294967295 - q):=Lib.hid (by rw [hq];rfl)
   clear hq
   go_wp2_with fail
   go_ret
   refine ⟨?_,n,rfl⟩
   rw [HQ.out]
   show Ending.returned (.int .i64 _)=_
   rw [not_val q hc]
end Go.Proofs.YtajmeimjaapagaaGreatDoor.Cr
