/- A part. -/
import Derived.StillTailTactics
import Derived.Test.YtajmeimjaapagaaGreatDoorDor7
import Derived.Test.YtajmeimjaapagaaGreatDoorDor6
set_option linter.unusedVariables false
set_option linter.unusedSimpArgs false
namespace Go.Proofs.YtajmeimjaapagaaGreatDoor.Cr
open Go.RowKit Go.Deep
def zeroT:Array Value:=Array.replicate 1024 (.int .u32 0)
theorem zero_val (w:World):(zeroValue 176).run Tryz.prog w = .ok (.agg zeroT) w:=by kernel_rfl
def Part (w:World) (b m:Nat):Prop:=w.rowIs b 176 1024 fun j=>if j<m then .int .u32 (cellT j:Nat) else .int .u32 0
theorem Part.full {w:World} {b:Nat} (h:Part w b 1024):Tab w b:=World.rowIs.congr h fun i hi=>by rw [if_pos hi]
theorem Part.next {w:World} {b m:Nat} (h:Part w b m) {v:Nat} (hv:v=cellT m):Part (w.setCell ⟨b,m,none⟩ (.int .u32 (v:Nat))) b (m+1):=
 (World.rowIs.set h m _).congr fun i hi=>by
  by_cases e:i=m
  ·subst e
   rw [if_pos rfl,if_pos (by omega),hv]
  ·rw [if_neg e]
   by_cases hl:i<m
   ·rw [if_pos hl,if_pos (by omega)]
   ·rw [if_neg hl,if_neg (by omega)]
theorem Part.new (w:World):Part (w.alloc (.cells zeroT 176)) w.heap.size 0:=by
 have h:=World.rowIs_alloc w zeroT 176 (fun _=>.int .u32 0) (fun i hi=>by
  unfold zeroT at hi ⊢
  rw [Array.getElem?_replicate,if_pos (by simpa using hi)])
 have e:zeroT.size=1024:=by unfold zeroT;simp
 rw [e] at h
 exact h.congr fun i _=>by rw [if_neg (by omega)]
theorem Part.cell {w:World} {b m:Nat} (h:Part w b m) {i:Nat} (hi:i<m) (hm:i<1024):w.cell? ⟨b,i,none⟩=some (.int .u32 (cellT i:Nat)):=by
 have:=World.rowIs.cell h hm
 simpa [hi] using this
theorem Part.old {w:World} {b m:Nat} (h:Part w b m) (hm:m<1024):w.cell? ⟨b,m,none⟩=some (.int .u32 0):=by
 have:=World.rowIs.cell h hm
 simpa using this
theorem Part.free {w:World} {b m:Nat} (h:Part w b m) (i:Nat):w.frozen? ⟨b,i,none⟩=false:=World.rowIs.frozen h i
def rowA (j:Nat):Array Value:=Array.ofFn fun i:Fin 256=>.int .u32 (cellT (j*256+i):Nat)
theorem rowA_size (j:Nat):(rowA j).size=256:=by simp [rowA]
theorem rowA_at (j i:Nat) (hi:i<256):(rowA j)[i]? = some (.int .u32 (cellT (j*256+i):Nat)):=by
 unfold rowA
 rw [Array.getElem?_ofFn,dif_pos hi]
theorem info_row:(Tryz.prog.info? 172).map (·.size)=some 256:=by kernel_rfl
theorem info_u32:(Tryz.prog.info? 171).map (·.size)=some 1:=by kernel_rfl
theorem row_index (w:World) (j i:Nat) (hi:i<256):(Instr.index 172 (.agg (rowA j)) (.int .i64 (i:Int))).run Tryz.prog w = .ok (.int .u32 (cellT (j*256+i):Nat)) w:=
 run_index_arr w .i64 Tryz.underlying172 Tryz.underlying171 rfl info_u32 hi (rowA_at j i hi)
theorem cellT_low (i:Nat) (h:i<256):cellT i=itr 8 i:=by
 have:=cellT_at 0 i h
 simpa using this
theorem cellT_next (j i:Nat) (h:i<256):bstep (cellT (j*256+i)) 0=cellT ((j+1)*256+i):=by
 rw [cellT_at _ _ h,cellT_at _ _ h,bstep,Nat.xor_zero,←itr_add]
 rfl
theorem Part.row {w:World} {b m j:Nat} (h:Part w b m) (hm:(j+1)*256≤m) (hj:j<4):∀ i v,(rowA j)[i]? = some v→w.cell? ⟨b,j*256+i,none⟩=some v:=by
 intro i v hv
 have hi:i<256:=by
  have:=(Array.getElem?_eq_some_iff.1 hv).1
  rwa [rowA_size] at this
 rw [rowA_at j i hi] at hv
 rw [←hv]
 exact h.cell (by omega) (by omega)
theorem Part.low {w:World} {b m:Nat} (h:Part w b m) (hm:256≤m) {x:Nat} (hx:x<256):w.cell? ⟨b,x,none⟩=some (.int .u32 (itr 8 x:Nat)):=by
 rw [h.cell (by omega) (by omega),cellT_low x hx]
theorem wrap32_nat (k:Nat) (h:k<4294967296):IntKind.u32.wrap (k:Int)=(k:Int):=by rw [IntKind.wrap_u32'];omega
set_option maxRecDepth 100000 in
set_option maxHeartbeats 1000000 in
theorem fill_any (b:Nat) (w:World) (h:Part w b 0):Calls Tryz.prog 102 #[.pointer (some ⟨b,0,none⟩)] w fun e w'=>e = .returned (.tuple #[])∧Tab w' b∧w.grownBy w' (some b):=by
 have H:=Lib.hid h
 clear h
 go_enter Tryz.func102,Tryz.ntmps102
 go_wp2_with fail
 go_loopw [2,6] (fun _ i wr=>∃ k:Nat,k≤256∧i = .int .i64 k∧Part wr b k∧w.grownBy wr (some b)) (fun _ i _=>256 - (intOf i).toNat)
 case atStart=>exact ⟨0,by omega,rfl,H.out,grownBy_refl _ _⟩
 case round=>
  obtain ⟨k,hk,rfl,hp,hg⟩:=hrel
  have HP:=Lib.hid hp
  have HG:=Lib.hid hg
  clear hp hg
  by_cases hlt:k<256
  ·have hwr:=wrap32_nat k (by omega)
   go_wp2_with fail
   go_still_tail 8,(by kernel_rfl)
   still_call ((bit_any k _ (by omega)).mono fun _ _ h=>⟨h.1,h.2.symm⟩)
   repeat still_step
   refine wpStill_nil ?_
   change wpList _ _ _ _ _ wr.drew
   have hp:Part wr.drew b k:=HP.out
   have hg:w.grownBy wr.drew (some b):=grownBy_trans HG.out (grownBy_drewN wr 1 _)
   generalize wr.drew=w2 at hp hg ⊢
   have hold:=hp.old (by omega)
   have hfree:=hp.free k
   have HN:=Lib.hid (hp.next (v:=itr 8 k) (by have:=cellT_at 0 k hlt;simpa using this.symm))
   have HG2:=Lib.hid hg
   clear hp hg
   go_wp2_with fail
   exact ⟨⟨k+1,by omega,by go_num,HN.out,grownBy_trans HG2.out (grownBy_setCell _ _ _ _)⟩,by simp [intOf];omega⟩
  ·have HP256:Hid (Part wr b 256):=Lib.hid (by have:=HP.out;rwa [show k=256 by omega] at this)
   clear HP
   go_wp2_with fail
   go_loopw [3] (fun i wr=>∃ j:Nat,j≤3∧i = .int .i64 ((j:Int)+1)∧Part wr b ((j+1)*256)∧w.grownBy wr (some b)) (fun i _=>4 - (intOf i).toNat)
   case atStart=>exact ⟨0,by omega,rfl,HP256.out,HG.out⟩
   case round=>
    clear HP256 HG
    obtain ⟨j,hj,rfl,hp,hg⟩:=hrel
    have HP:=Lib.hid hp
    have HG:=Lib.hid hg
    clear hp hg
    by_cases hlt:j<3
    ·have HROW:=Lib.hid (HP.out.row (j:=j) (Nat.le_refl _) (by omega))
     obtain ⟨wo,hwo⟩:∃ wo:World,wo=wr:=⟨_,rfl⟩
     subst hwo
     go_wp2_with (refine wpList_load_part rfl _ _ rfl b (j*256) rfl (rowA j) _ HROW.out Tryz.underlying172 rfl (by rw [rowA_size];exact info_row) ?_)
     go_loopw [28] (fun i wr=>∃ k:Nat,k≤256∧i = .int .i64 k∧Part wr b ((j+1)*256+k)∧w.grownBy wr (some b)) (fun i _=>256 - (intOf i).toNat)
     case atStart=>exact ⟨0,by omega,rfl,HP.out,HG.out⟩
     case round=>
      clear HP HG HROW
      obtain ⟨i,hi,rfl,hp,hg⟩:=hrel
      have HP:=Lib.hid hp
      have HG:=Lib.hid hg
      clear hp hg
      by_cases hit:i<256
      ·have hix:=row_index wr j i hit
       have hcl:=cellT_lt (j*256+i)
       have HNX:=Lib.hid (cellT_next j i hit)
       obtain ⟨c,hc⟩:∃ c,c=cellT (j*256+i):=⟨_,rfl⟩
       rw [←hc] at hix hcl
       have HNX2:Hid (bstep c 0=cellT ((j+1)*256+i)):=Lib.hid (by rw [hc];exact HNX.out)
       have HC:=Lib.hid hc
       clear hc HNX
       go_wp2_with fail
       have HLOW:=Lib.hid (Part.low (w:=wr.drew) HP.out (by omega) (byte_xor_lt c 0 (by omega)))
       have hb0:(0:Int)≤(j:Int)+1:=by omega
       have hb1:(j:Int)+1<4:=by omega
       have hb2:(i:Int)<256:=by omega
       have hb3:((j:Int)+1).toNat=j+1:=by omega
       go_still_tail 9,(by kernel_rfl)
       still_call ((step_at b c 0 wr.drew hcl (by omega) HLOW.out).mono fun _ _ h=>⟨h.1,h.2.symm⟩)
       repeat still_step
       refine wpStill_nil ?_
       change wpList _ _ _ _ _ wr.drew
       have hp:Part wr.drew b ((j+1)*256+i):=HP.out
       have hg:w.grownBy wr.drew (some b):=grownBy_trans HG.out (grownBy_drewN wr 1 _)
       clear HLOW hix
       generalize wr.drew=w2 at hp hg ⊢
       have hold:=hp.old (by omega)
       have hfree:=hp.free ((j+1)*256+i)
       have HN:=Lib.hid (hp.next HNX2.out)
       have HG2:=Lib.hid hg
       clear hp hg
       go_wp2_with fail
       exact ⟨⟨i+1,by omega,by go_num,HN.out,grownBy_trans HG2.out (grownBy_setCell _ _ _ _)⟩,by simp [intOf];omega⟩
      ·obtain rfl:i=256:=by omega
       clear hi hit
       go_wp2_with fail
       go_roundw
       case rel=>exact ⟨j+1,by omega,by go_num,by rw [show (j+1+1)*256=(j+1)*256+256 by omega];exact HP.out,HG.out⟩
       case measure=>simp [intOf];omega
    ·obtain rfl:j=3:=by omega
     go_wp2_with fail
     go_end0
     exact ⟨rfl,Part.full HP.out,HG.out⟩
set_option maxRecDepth 100000 in
set_option maxHeartbeats 1000000 in
theorem new_any (w:World):Calls Tryz.prog 63 #[] w fun e w'=>e = .returned (.pointer (some ⟨w.heap.size,0,none⟩))∧Tab w' w.heap.size∧Below w.heap.size w w':=by
 have hz:=zero_val w
 have HN:=Lib.hid (Part.new w)
 go_enter Tryz.func63,Tryz.ntmps63
 go_wp2_with fail
 refine (fill_any _ _ HN.out).mono ?_
 rintro e w1 ⟨rfl,ht,hg⟩
 have HT:=Lib.hid ht
 have HB:=Lib.hid (((Below.refl w.heap.size w).alloc (Nat.le_refl _) (.cells zeroT 176)).grown hg (by simp) (fun k e=>by cases e;exact Nat.le_refl _))
 clear ht hg
 go_wp2_with fail
 go_ret
 exact ⟨rfl,HT.out,HB.out⟩
def headV (n:Nat):Array Value:=#[.int .u8 (n / 16777216:Nat),.int .u8 (n / 65536 % 256:Nat),.int .u8 (n / 256 % 256:Nat),.int .u8 (n % 256:Nat)]
theorem headOf_any (n:Nat) (w:World) (hn:n<4294967296):Calls Tryz.prog 181 #[.int .i64 n] w fun e w'=>e = .returned (.agg (headV n))∧Below w.heap.size w w':=by
 go_enter Tryz.func181,Tryz.ntmps181
 go_wp2_with fail
 exact bodyPost_ret (v:=.agg (headV n)) (by simp [results,Tryz.results181,go_sem,headV]) rfl ⟨rfl,(Below.refl _ _).alloc (Nat.le_refl _) _⟩
def sealB (s:ByteArray):List UInt8:=numB 4 (crcL s.data.toList) ++ s.data.toList
theorem sealB_eq (s:ByteArray):(⟨(numB 4 (crcL s.data.toList)).toArray⟩:ByteArray) ++ s=⟨(sealB s).toArray⟩:=by
 unfold sealB
 rw [←append_toArray,Array.toArray_toList]
theorem Tab.alloc {w:World} {b:Nat} (h:Tab w b) (o:Obj):Tab (w.alloc o) b:=World.rowIs.alloc h o
theorem Tab.below {w w':World} {b B:Nat} (h:Tab w b) (hb:Below B w w') (hB:b<B):Tab w' b:=World.rowIs.of_block h (hb.block b hB)
theorem Tab.lt {w:World} {b:Nat} (h:Tab w b):b<w.heap.size:=World.rowIs.lt h
theorem strs_one (w:World) (s:ByteArray):Strs (w.alloc (.cells #[.string s] 9)) 0 (.slice (some ⟨w.heap.size,0,none⟩) 1 1) [s]:=
 ⟨some ⟨w.heap.size,0,none⟩,1,rfl,.inr ⟨_,_,rfl,Nat.zero_le _,fun i hi=>by
  obtain rfl:i=0:=by simp at hi;exact hi
  simp⟩⟩
theorem headV_by8 (n:Nat) (hn:n<4294967296):headV n=((numB 4 n).map by8).toArray:=by
 unfold headV
 simp only [numB,List.map,by8,UInt8.toNat_ofNat',Nat.reducePow]
 rw [Nat.mod_eq_of_lt (show n / 16777216<256 by omega),Nat.div_one]
theorem conv_four (w:World) (n:Nat) (hn:n<4294967296) (t:TypeId):(convert 65 9 (.slice (some ⟨w.heap.size,0,none⟩) 4 4)).run Tryz.prog (w.alloc (.cells (headV n) t)) = .ok (.string ⟨(numB 4 n).toArray⟩) (w.alloc (.cells (headV n) t)):=by
 have hl:=numB_length 4 n
 have h:=run_convert_bytes_back (P:=Tryz.prog) (w.alloc (.cells (headV n) t)) 65 9 5 ⟨w.heap.size,0,none⟩ 4 (numB 4 n) Tryz.underlying65 Tryz.underlying5 Tryz.underlying9 fun j hj=>by
  rw [add_none,headV_by8 n hn,cell_of_row _ _ _ _ t (0,0) (heap_alloc_new w _)]
  simp [by8,List.getElem?_eq_getElem hj]
 rw [hl] at h
 exact h
set_option maxRecDepth 100000 in
theorem seal_any (b:Nat) (s:ByteArray) (w:World) (h:Tab w b) (hs:s.size≤1000000):Calls Tryz.prog 166 #[.pointer (some ⟨b,0,none⟩),.string s] w fun e w'=>e = .returned (.string ⟨(sealB s).toArray⟩)∧Below w.heap.size w w':=by
 obtain ⟨n,hn⟩:∃ n,n=crcL s.data.toList:=⟨_,rfl⟩
 have hlt:=crcL_lt s.data.toList
 rw [←hn] at hlt
 have HE:=Lib.hid (sealB_eq s)
 rw [←hn] at HE
 have HN:=Lib.hid hn
 have hsz:(⟨(numB 4 n).toArray⟩:ByteArray).size≤4:=by simp [ByteArray.size,numB_length]
 have HT:=Lib.hid (h.alloc (.cells #[.string s] 9))
 have HS:=Lib.hid (strs_one w s)
 have HB:=Lib.hid ((Below.refl w.heap.size w).alloc (Nat.le_refl _) (.cells #[.string s] 9))
 clear hn h
 go_enter Tryz.func166,Tryz.ntmps166
 go_wp2_with fail
 refine (sum_any b _ [s] _ HT.out HS.out (by unfold maxLen;simp) (by simp;unfold maxLen;omega)).mono ?_
 rintro e w1 ⟨rfl,k,rfl⟩
 rw [flatB_one,←HN.out]
 go_wp2_with fail
 refine (headOf_any n _ hlt).mono ?_
 rintro e w2 ⟨rfl,hb⟩
 have hcv:=conv_four w2 n hlt 247
 obtain ⟨x0,x1,x2,x3,hh⟩:∃ x0 x1 x2 x3:Int,headV n = #[.int .u8 x0,.int .u8 x1,.int .u8 x2,.int .u8 x3]:=⟨_,_,_,_,rfl⟩
 rw [hh] at hcv ⊢
 have HB2:=Lib.hid ((below_drewN HB.out k).trans (hb.mono (by simp [World.drewN])))
 clear hh hb
 go_wp2_with fail
 go_ret
 exact ⟨by rw [←HE.out];rfl,HB2.out.alloc HB2.out.size _⟩
end Go.Proofs.YtajmeimjaapagaaGreatDoor.Cr
