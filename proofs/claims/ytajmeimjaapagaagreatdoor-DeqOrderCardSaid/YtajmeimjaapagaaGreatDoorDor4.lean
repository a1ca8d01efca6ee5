/- A part. -/
import Derived.BigQuiet
import Derived.Lib.Hide
import Derived.Test.YtajmeimjaapagaaGreatDoorRows
import Derived.WalkLawsBesides
import Derived.WalkSpells
set_option linter.unusedVariables false
set_option linter.unusedSimpArgs false
namespace Go.Proofs.YtajmeimjaapagaaGreatDoor.Oc
open Go.RowKit
def Rd (w:World) (b:Nat) (s:ByteArray) (e:Int):Prop:=
 w.heap[b]? = some (.cells #[.string s,.int .i64 e] 191 (0,0))
theorem Rd.rest {w:World} {b:Nat} {s:ByteArray} {e:Int} (h:Rd w b s e):w.cell? ⟨b,0,none⟩=some (.string s):=by
 unfold Rd at h;simp [World.cell?,h]
theorem Rd.err {w:World} {b:Nat} {s:ByteArray} {e:Int} (h:Rd w b s e):w.cell? ⟨b,1,none⟩=some (.int .i64 e):=by
 unfold Rd at h;simp [World.cell?,h]
theorem Rd.free {w:World} {b:Nat} {s:ByteArray} {e:Int} (h:Rd w b s e) (i:Nat):w.frozen? ⟨b,i,none⟩=false:=by
 unfold Rd at h;simp [World.frozen?,h]
theorem isWidth_any (n:Int) (w:World):Calls Tryz.prog 170 #[.int .i64 n] w fun e w'=>e = .returned (.bool (decide (1≤n∧n≤7)))∧w=w':=by
 by_cases h1:1≤n<;>by_cases h2:n≤7
 all_goals
  go_enter Tryz.func170,Tryz.ntmps170
  go_wp2
  go_ret
  exact ⟨by simp [h1,h2],rfl⟩
theorem err_any (b:Nat) (s:ByteArray) (x:Int) (w:World) (h:Rd w b s x):Calls Tryz.prog 121 #[.pointer (some ⟨b,0,none⟩)] w fun e w'=>e = .returned (.int .i64 x)∧w=w':=by
 have h1:=h.err
 clear h
 go_enter Tryz.func121,Tryz.ntmps121
 go_wp2
 go_ret
 exact ⟨rfl,rfl⟩
theorem left_any (b:Nat) (s:ByteArray) (x:Int) (w:World) (h:Rd w b s x):Calls Tryz.prog 214 #[.pointer (some ⟨b,0,none⟩)] w fun e w'=>e = .returned (.int .i64 s.size)∧w=w':=by
 have h1:=h.rest
 clear h
 go_enter Tryz.func214,Tryz.ntmps214
 go_wp2
 go_ret
 exact ⟨rfl,rfl⟩
theorem Rd.lt {w:World} {b:Nat} {s:ByteArray} {e:Int} (h:Rd w b s e):b<w.heap.size:=lt_of_block h
theorem Rd.drewN {w:World} {b:Nat} {s:ByteArray} {e:Int} (h:Rd w b s e) (k:Nat):Rd (w.drewN k) b s e:=h
theorem Rd.set0 {w:World} {b:Nat} {s:ByteArray} {e:Int} (h:Rd w b s e) (t:ByteArray):Rd (w.setCell ⟨b,0,none⟩ (.string t)) b t e:=by
 have hlt:=h.lt
 have h':w.heap[b] = .cells #[.string s,.int .i64 e] 191 (0,0):=by simpa [Rd,Array.getElem?_eq_getElem hlt] using h
 show (w.heap.modify b _)[b]? = _
 rw [Array.getElem?_eq_getElem (by simpa using hlt),Array.getElem_modify_self,h']
 rfl
theorem Rd.set1 {w:World} {b:Nat} {s:ByteArray} {e:Int} (h:Rd w b s e) (x:Int):Rd (w.setCell ⟨b,1,none⟩ (.int .i64 x)) b s x:=by
 have hlt:=h.lt
 have h':w.heap[b] = .cells #[.string s,.int .i64 e] 191 (0,0):=by simpa [Rd,Array.getElem?_eq_getElem hlt] using h
 show (w.heap.modify b _)[b]? = _
 rw [Array.getElem?_eq_getElem (by simpa using hlt),Array.getElem_modify_self,h']
 rfl
theorem grownBy_setCell (w:World) (b o:Nat) (v:Value):w.grownBy (w.setCell ⟨b,o,none⟩ v) (some b):=
 ⟨rfl,rfl,rfl,by simp [World.setCell],fun k _ hk=>Below.heap_setCell _ _ _ _ (by simpa using hk)⟩
theorem grownBy_refl (w:World) (r:Option Nat):w.grownBy w r:=⟨rfl,rfl,rfl,Nat.le_refl _,fun _ _ _=>rfl⟩
theorem grownBy_drewN (w:World) (k:Nat) (r:Option Nat):w.grownBy (w.drewN k) r:=⟨rfl,rfl,rfl,Nat.le_refl _,fun _ _ _=>rfl⟩
theorem grownBy_trans {a b c:World} {r:Option Nat} (h:a.grownBy b r) (k:b.grownBy c r):a.grownBy c r:=
 ⟨k.os.trans h.os,k.tape.trans h.tape,k.output.trans h.output,Nat.le_trans h.size k.size,fun i hi hr=>(k.block i (Nat.lt_of_lt_of_le hi h.size) hr).trans (h.block i hi hr)⟩
def goS (s rest:ByteArray) (x:Int):ByteArray:=if x=0 then rest else s
theorem goS_err (s rest:ByteArray) {x:Int} (h:x≠0):goS s rest x=s:=if_neg h
theorem goOn_any (b:Nat) (s rest:ByteArray) (x:Int) (w:World) (h:Rd w b s 0):Calls Tryz.prog 123 #[.pointer (some ⟨b,0,none⟩),.string rest,.int .i64 x] w fun e w'=>e = .returned (.tuple #[])∧Rd w' b (goS s rest x) x∧w.grownBy w' (some b):=by
 have h1:=h.err
 have h2:=h.rest
 have h3:=h.free 0
 have h4:=h.free 1
 by_cases hx:x=0
 ·subst hx
  have r:=h.set0 rest
  have H:=Lib.hid h
  have R:=Lib.hid r
  clear h r
  go_enter Tryz.func123,Tryz.ntmps123
  go_wp2
  go_end0
  exact ⟨rfl,R.out,grownBy_setCell _ _ _ _⟩
 ·have r:=h.set1 x
  rw [←goS_err s rest hx] at r
  have hb:(x == 0)=false:=by simpa using hx
  have R:=Lib.hid r
  have H:=Lib.hid h
  have Hx:=Lib.hid hx
  clear h r hx
  go_enter Tryz.func123,Tryz.ntmps123
  go_wp2
  exact bodyPost_ret (results_none Tryz.results123 _ _ _) rfl ⟨rfl,R.out,grownBy_setCell _ _ _ _⟩
theorem new_any (s:ByteArray) (w:World):Calls Tryz.prog 76 #[.string s] w fun e w'=>e = .returned (.pointer (some ⟨w.heap.size,0,none⟩))∧w'=w.alloc (.cells #[.string s,.int .i64 0] 191):=by
 go_enter Tryz.func76,Tryz.ntmps76
 go_wp2
 go_ret
 exact ⟨rfl,rfl⟩
def cutS (s:ByteArray) (n:Int):ByteArray×ByteArray×Int:=
 if n<0 then (⟨#[]⟩,⟨#[]⟩,1) else if (s.size:Int)<n then (⟨#[]⟩,⟨#[]⟩,3) else (s.extract 0 n.toNat,s.extract n.toNat s.size,0)
theorem cut_any (s:ByteArray) (n:Int) (w:World) {t rest:ByteArray} {x:Int} (hc:cutS s n=(t,rest,x)):Calls Tryz.prog 171 #[.string s,.int .i64 n] w fun e w'=>e = .returned (.tuple #[.string t,.string rest,.int .i64 x])∧∃ k,w'=w.drewN k:=by
 unfold cutS at hc
 by_cases h:n<0
 ·rw [if_pos h] at hc
  simp only [Prod.mk.injEq] at hc
  obtain ⟨rfl,rfl,rfl⟩:=hc
  go_enter Tryz.func171,Tryz.ntmps171
  go_wp2
  go_ret3
  exact ⟨rfl,0,rfl⟩
 ·rw [if_neg h] at hc
  by_cases h2:(s.size:Int)<n
  ·rw [if_pos h2] at hc
   simp only [Prod.mk.injEq] at hc
   obtain ⟨rfl,rfl,rfl⟩:=hc
   go_enter Tryz.func171,Tryz.ntmps171
   go_wp2
   go_ret3
   exact ⟨rfl,0,rfl⟩
  ·rw [if_neg h2] at hc
   obtain ⟨m,rfl⟩:∃ m:Nat,n=m:=⟨n.toNat,by omega⟩
   rw [Int.toNat_natCast] at hc
   simp only [Prod.mk.injEq] at hc
   obtain ⟨rfl,rfl,rfl⟩:=hc
   have h3:m≤s.size:=by omega
   clear h h2
   go_enter Tryz.func171,Tryz.ntmps171
   go_wp2
   go_quiet (fail)
   go_wp2
   go_ret3
   exact ⟨rfl,_,rfl⟩
def getN (l:List UInt8):Nat:=l.foldl (fun a c=>256*a+c.toNat) 0
theorem getN_snoc (l:List UInt8) (c:UInt8):getN (l ++ [c])=256*getN l+c.toNat:=by simp [getN]
theorem getN_lt:∀ l:List UInt8,getN l<256 ^ l.length:=by
 intro l
 suffices h:∀ (r:List UInt8),getN r.reverse<256 ^ r.length by simpa using h l.reverse
 intro r
 induction r with
 | nil=>simp [getN]
 | cons c r ih=>
  rw [List.reverse_cons,getN_snoc,List.length_cons,Nat.pow_succ]
  have:=c.toNat_lt
  omega
def numS (s:ByteArray) (n:Int):Nat×ByteArray×Int:=
 if 1≤n∧n≤7 then (if (cutS s n).2.2=0 then (getN (cutS s n).1.data.toList,(cutS s n).2.1,0) else (0,⟨#[]⟩,(cutS s n).2.2)) else (0,⟨#[]⟩,1)
theorem cutS_size {s t rest:ByteArray} {n:Int} (h:cutS s n=(t,rest,0)):(t.size:Int)=n:=by
 unfold cutS at h
 split at h
 ·simp at h
 ·split at h
  ·simp at h
  ·simp only [Prod.mk.injEq] at h
   obtain ⟨rfl,_,_⟩:=h
   simp [ByteArray.size_extract]
   omega
theorem take_snoc (s:ByteArray) (k:Nat) (h:k<s.size):s.data.toList.take (k+1)=s.data.toList.take k ++ [s[k]]:=by
 rw [List.take_succ_eq_append_getElem (by simpa using h)];rfl
theorem num_step (a c:Nat) (ha:a<256 ^ 6) (hc:c<256):bits BinOp.or IntKind.i64 (wrap64 ((a:Int)*256)) (wrap64 (c:Int))=((256*a+c:Nat):Int):=by
 rw [IntWalk.wrap64_in _ ⟨by omega,by omega⟩,IntWalk.wrap64_in _ ⟨by omega,by omega⟩]
 rw [bits_join .i64 62 (by decide) (fun n h0 h1=>by rw [IntKind.wrap_i64];omega) 8 _ _ (by omega) (by omega) (by omega) (by omega) (by omega) (by omega)]
 omega
set_option maxHeartbeats 400000 in
theorem cutNum_any (s:ByteArray) (n:Int) (w:World) {v:Nat} {rest:ByteArray} {x:Int} (hc:numS s n=(v,rest,x)):Calls Tryz.prog 122 #[.string s,.int .i64 n] w fun e w'=>e = .returned (.tuple #[.int .i64 v,.string rest,.int .i64 x])∧∃ k,w'=w.drewN k:=by
 unfold numS at hc
 by_cases h:1≤n∧n≤7
 ·rw [if_pos h] at hc
  have hd:=decide_eq_true h
  obtain ⟨h1,h2⟩:=h
  obtain ⟨t,r,y,hy⟩:∃ t r y,cutS s n=(t,r,y):=⟨_,_,_,rfl⟩
  rw [hy] at hc
  have HY:=Lib.hid hy
  have HD:=Lib.hid hd
  clear hd
  by_cases h0:y=0
  ·subst h0
   have hz:=cutS_size hy
   simp only [if_true,Prod.mk.injEq] at hc
   obtain ⟨hv,rfl,rfl⟩:=hc
   have HV:=Lib.hid hv
   clear hv hy
   obtain ⟨m,rfl⟩:∃ m:Nat,n=m:=⟨n.toNat,by omega⟩
   obtain rfl:t.size=m:=by omega
   clear hz
   go_enter Tryz.func122,Tryz.ntmps122
   go_wp2_with fail
   refine (isWidth_any _ _).mono ?_
   rintro e w' ⟨rfl,rfl⟩
   rw [HD.out]
   go_wp2_with fail
   refine (cut_any _ _ _ HY.out).mono ?_
   rintro e w' ⟨rfl,k0,rfl⟩
   go_wp2_with fail
   go_loop [10,26] (fun x i=>∃ k:Nat,k≤t.size∧i = .int .i64 k∧x = .int .i64 (getN (t.data.toList.take k))) (fun _ i=>t.size - (intOf i).toNat)
   case atStart=>exact ⟨0,Nat.zero_le _,rfl,rfl⟩
   case round=>
    obtain ⟨k,hk,rfl,rfl⟩:=hrel
    by_cases hlt:k<t.size
    ·have hb:=getN_lt (t.data.toList.take k)
     have hp:256 ^ (t.data.toList.take k).length≤256 ^ 6:=Nat.pow_le_pow_right (by decide) (by simp;omega)
     have HJ:=Lib.hid (num_step (getN (t.data.toList.take k)) t[k].toNat (by omega) t[k].toNat_lt)
     have HG:=Lib.hid (getN_snoc (t.data.toList.take k) t[k])
     have HT:=Lib.hid (take_snoc t k hlt)
     clear hb hp
     go_wp2_with fail
     refine ⟨⟨k+1,by omega,by go_num,?_⟩,by simp [intOf];omega⟩
     rw [HJ.out,HT.out,HG.out]
    ·obtain rfl:k=t.size:=by omega
     clear hlt
     go_wp2_with fail
     go_ret3
     refine ⟨?_,_,rfl⟩
     rw [List.take_of_length_le (by simp),HV.out]
     rfl
  ·rw [if_neg h0] at hc
   simp only [Prod.mk.injEq] at hc
   obtain ⟨rfl,rfl,rfl⟩:=hc
   have hb:(y == 0)=false:=by simpa using h0
   clear hy h0
   go_enter Tryz.func122,Tryz.ntmps122
   go_wp2_with fail
   refine (isWidth_any _ _).mono ?_
   rintro e w' ⟨rfl,rfl⟩
   rw [HD.out]
   go_wp2_with fail
   refine (cut_any _ _ _ HY.out).mono ?_
   rintro e w' ⟨rfl,k0,rfl⟩
   go_wp2_with fail
   go_ret3
   exact ⟨rfl,_,rfl⟩
 ·rw [if_neg h] at hc
  have HD:=Lib.hid (decide_eq_false h)
  simp only [Prod.mk.injEq] at hc
  obtain ⟨rfl,rfl,rfl⟩:=hc
  clear h
  go_enter Tryz.func122,Tryz.ntmps122
  go_wp2_with fail
  refine (isWidth_any _ _).mono ?_
  rintro e w' ⟨rfl,rfl⟩
  rw [HD.out]
  go_wp2_with fail
  go_ret3
  exact ⟨rfl,0,rfl⟩
theorem num_none (b:Nat) (s:ByteArray) (n x:Int) (w:World) (h:Rd w b s x) (hx:x≠0):Calls Tryz.prog 77 #[.pointer (some ⟨b,0,none⟩),.int .i64 n] w fun e w'=>e = .returned (.int .i64 0)∧w=w':=by
 have hb:(x == 0)=false:=by simpa using hx
 have H:=Lib.hid h
 clear h hx
 go_enter Tryz.func77,Tryz.ntmps77
 go_wp2_with (go_at_call 121;refine (err_any _ _ _ _ H.out).mono ?_;rintro e w' ⟨rfl,rfl⟩)
 go_ret
 exact ⟨rfl,rfl⟩
theorem num_any (b:Nat) (s:ByteArray) (n:Int) (w:World) (h:Rd w b s 0) {v:Nat} {rest:ByteArray} {x:Int} (hc:numS s n=(v,rest,x)):Calls Tryz.prog 77 #[.pointer (some ⟨b,0,none⟩),.int .i64 n] w fun e w'=>e = .returned (.int .i64 v)∧Rd w' b (goS s rest x) x∧w.grownBy w' (some b):=by
 have h1:=h.rest
 have H:=Lib.hid h
 have HC:=Lib.hid hc
 clear h hc
 go_enter Tryz.func77,Tryz.ntmps77
 go_wp2_with fail
 refine (err_any _ _ _ _ H.out).mono ?_
 rintro e w' ⟨rfl,rfl⟩
 go_wp2_with fail
 refine (cutNum_any _ _ _ HC.out).mono ?_
 rintro e w' ⟨rfl,k,rfl⟩
 go_wp2_with fail
 refine (goOn_any b s rest x _ (H.out.drewN k)).mono ?_
 rintro e w' ⟨rfl,hr,hg⟩
 have HR:=Lib.hid hr
 have HG:=Lib.hid (grownBy_trans (grownBy_drewN w k _) hg)
 clear hr hg
 go_wp2
 go_ret
 exact ⟨rfl,HR.out,HG.out⟩
end Go.Proofs.YtajmeimjaapagaaGreatDoor.Oc
