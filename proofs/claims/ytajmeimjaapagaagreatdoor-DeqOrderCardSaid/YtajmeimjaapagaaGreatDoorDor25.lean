/- A part. -/
import Derived.Lib.Atoi
import Derived.Lib.ItoaNum
import Derived.Lib.Repeat
import Derived.Shelf.GgClosure.StringsIndexFunc
import Derived.Test.YtajmeimjaapagaaGreatDoorDor6
set_option linter.unusedVariables false
set_option linter.unusedSimpArgs false
namespace Go.Proofs.YtajmeimjaapagaaGreatDoor
open Go.RowKit Go.Deep
def dec8 (u:Nat):List UInt8:=(List.range 8).map fun t=>Lib.dg u (7 - t)
theorem dec8_length (u:Nat):(dec8 u).length=8:=by simp [dec8]
theorem dec8_eq (u:Nat):dec8 u=[Lib.dg u 7,Lib.dg u 6,Lib.dg u 5,Lib.dg u 4,Lib.dg u 3,Lib.dg u 2,Lib.dg u 1,Lib.dg u 0]:=rfl
theorem nDigits_le8 (u:Nat) (h:u<100000000):Lib.nDigits u≤8:=by
 by_cases h0:u<10
 ·rw [Lib.nDigits_small h0];decide
 by_cases h1:u<100
 ·rw [Lib.nDigits_unique 1 u (by omega) (by omega)];decide
 by_cases h2:u<1000
 ·rw [Lib.nDigits_unique 2 u (by omega) (by omega)];decide
 by_cases h3:u<10000
 ·rw [Lib.nDigits_unique 3 u (by omega) (by omega)];decide
 by_cases h4:u<100000
 ·rw [Lib.nDigits_unique 4 u (by omega) (by omega)];decide
 by_cases h5:u<1000000
 ·rw [Lib.nDigits_unique 5 u (by omega) (by omega)];decide
 by_cases h6:u<10000000
 ·rw [Lib.nDigits_unique 6 u (by omega) (by omega)];decide
 ·rw [Lib.nDigits_unique 7 u (by omega) (by omega)];decide
theorem repeat_zero (c:Nat):Lib.repeatL [48] c=List.replicate c 48:=by
 induction c with
 | zero=>rfl
 | succ c ih=>rw [Lib.repeatL,ih];rfl
theorem pad_dec8 (u:Nat) (h:u<100000000):Lib.repeatL [48] (8 - (Lib.decDigits u).length) ++ Lib.decDigits u=dec8 u:=by
 have h8:=nDigits_le8 u h
 have hp:=Lib.nDigits_pos u
 have hl:=Lib.lt_pow_nDigits u
 rw [repeat_zero,Lib.decDigits_length,Lib.decDigits_eq]
 unfold dec8
 apply List.ext_getElem
 ·simp;omega
 ·intro i h1 h2
  have hi:i<8:=by simpa using h2
  rw [List.getElem_map,List.getElem_range]
  by_cases hlt:i<8 - Lib.nDigits u
  ·rw [List.getElem_append_left (by simpa using hlt),List.getElem_replicate]
   unfold Lib.dg
   have hle:10 ^ Lib.nDigits u≤10 ^ (7 - i):=Nat.pow_le_pow_right (by decide) (by omega)
   rw [Nat.div_eq_of_lt (by omega)]
   rfl
  ·rw [List.getElem_append_right (by simpa using hlt)]
   simp only [List.length_replicate,List.getElem_map,List.getElem_range]
   congr 1
   omega
def isDig (b:UInt8):Prop:=48≤b.toNat∧b.toNat≤57
theorem dg_dig (u j:Nat):isDig (Lib.dg u j)∧(Lib.dg u j).toNat=48+u / 10 ^ j % 10:=by
 have h:u / 10 ^ j % 10<10:=Nat.mod_lt _ (by decide)
 have e:(Lib.dg u j).toNat=48+u / 10 ^ j % 10:=by
  unfold Lib.dg
  rw [UInt8.toNat_ofNat']
  omega
 unfold isDig
 omega
theorem dec8_dig (u:Nat):∀ b∈dec8 u,isDig b:=fun b hb=>by
 obtain ⟨t,_,rfl⟩:=List.mem_map.1 hb
 exact (dg_dig u _).1
theorem dv {b:UInt8} (h:isDig b):Lib.digitVal b=some (b.toNat - 48):=if_pos h
def val8 (l:List UInt8):Nat:=l.foldl (fun a b=>a*10+(b.toNat - 48)) 0
theorem decFrom_val (l:List UInt8) (h:∀ b∈l,isDig b) (acc:Nat):Lib.decFrom acc l=some (l.foldl (fun a b=>a*10+(b.toNat - 48)) acc):=by
 induction l generalizing acc with
 | nil=>rfl
 | cons b l ih=>
  simp only [Lib.decFrom,dv (h b (List.mem_cons_self ..)),List.foldl_cons]
  exact ih (fun x hx=>h x (List.mem_cons_of_mem _ hx)) _
theorem atoi_val {l:List UInt8} (h8:l.length=8) (h:∀ b∈l,isDig b):Lib.atoi l=some (val8 l:Int):=by
 match l,h8 with
 | b :: r,_=>
  have hb:=h b (List.mem_cons_self ..)
  unfold isDig at hb
  have h1:(b == 45)=false:=by
   rw [beq_eq_false_iff_ne]
   intro e
   subst e
   exact absurd hb.1 (by decide)
  have h2:(b == 43)=false:=by
   rw [beq_eq_false_iff_ne]
   intro e
   subst e
   exact absurd hb.1 (by decide)
  simp only [Lib.atoi,h1,h2,Lib.decNat,List.isEmpty_cons,Bool.false_eq_true,if_false]
  rw [decFrom_val _ h]
  rfl
theorem val8_dec8 (u:Nat) (h:u<100000000):val8 (dec8 u)=u:=by
 have h7:=(dg_dig u 7).2
 have h6:=(dg_dig u 6).2
 have h5:=(dg_dig u 5).2
 have h4:=(dg_dig u 4).2
 have h3:=(dg_dig u 3).2
 have h2:=(dg_dig u 2).2
 have h1:=(dg_dig u 1).2
 have h0:=(dg_dig u 0).2
 rw [dec8_eq]
 unfold val8
 simp only [List.foldl_cons,List.foldl_nil]
 omega
theorem ofNat_dig {b:UInt8} {n:Nat} (h:b.toNat=48+n):UInt8.ofNat (48+n)=b:=by
 rw [←h]
 exact UInt8.ofNat_toNat
theorem dec8_val8 {l:List UInt8} (h8:l.length=8) (h:∀ b∈l,isDig b):dec8 (val8 l)=l∧val8 l<100000000:=by
 match l,h8 with
 | [a,b,c,d,e,f,g,k],_=>
  have ha:isDig a:=h a (by simp)
  have hb:isDig b:=h b (by simp)
  have hc:isDig c:=h c (by simp)
  have hd:isDig d:=h d (by simp)
  have he:isDig e:=h e (by simp)
  have hf:isDig f:=h f (by simp)
  have hg:isDig g:=h g (by simp)
  have hk:isDig k:=h k (by simp)
  unfold isDig at *
  rw [dec8_eq]
  obtain ⟨v,hv⟩:∃ v,v=val8 [a,b,c,d,e,f,g,k]:=⟨_,rfl⟩
  rw [←hv]
  unfold val8 at hv
  simp only [List.foldl_cons,List.foldl_nil] at hv
  unfold Lib.dg
  refine ⟨?_,by omega⟩
  simp only [List.cons.injEq,and_true]
  exact ⟨ofNat_dig (by omega),ofNat_dig (by omega),ofNat_dig (by omega),ofNat_dig (by omega),ofNat_dig (by omega),ofNat_dig (by omega),ofNat_dig (by omega),ofNat_dig (by omega)⟩
def noDig (r:Nat):Bool:=decide (r<48) || decide (57<r)
theorem at_mem (s:ByteArray) (i:Nat) (h:i<s.size):s[i]∈s.data.toList:=by
 have:s[i]=s.data[i]:=rfl
 rw [this]
 simp
theorem idx_dig (s:ByteArray) (h:∀ b∈s.data.toList,isDig b):Lib.idxFunc noDig true s = -1:=by
 have key:∀ f pos,Lib.idxFuncFrom noDig true s f pos = -1:=by
  intro f
  induction f with
  | zero=>intro pos;rfl
  | succ f ih=>
   intro pos
   unfold Lib.idxFuncFrom
   split
   ·rename_i hp
    have hd:=h _ (at_mem s pos hp)
    unfold isDig at hd
    rw [decode_ascii s pos hp (by omega)]
    have:noDig (s[pos]'hp).toNat=false:=by unfold noDig;simp;omega
    simp only [this]
    exact ih _
   ·rfl
 exact key _ _
theorem dig_idx (s:ByteArray) (h:Lib.idxFunc noDig true s = -1):∀ b∈s.data.toList,isDig b:=by
 have key:∀ f pos,s.size≤pos+f→Lib.idxFuncFrom noDig true s f pos = -1→∀ i (hi:i<s.size),pos≤i→isDig (s[i]'hi):=by
  intro f
  induction f with
  | zero=>intro pos hf _ i hi hp;omega
  | succ f ih=>
   intro pos hf hx i hi hp
   unfold Lib.idxFuncFrom at hx
   have hps:pos<s.size:=by omega
   rw [if_pos hps] at hx
   split at hx
   ·omega
   ·rename_i hn
    have hn':noDig (Utf8.decode s pos).1=false:=by simpa using hn
    unfold noDig at hn'
    simp at hn'
    by_cases ha:(s[pos]'hps).toNat<128
    ·rw [decode_ascii s pos hps ha] at hn' hx
     by_cases he:i=pos
     ·subst he
      exact hn'
     ·exact ih (pos+1) (by omega) hx i hi (by omega)
    ·have:=(decode_high s pos hps (by omega)).1
     omega
 intro b hb
 obtain ⟨i,hi,rfl⟩:=List.mem_iff_getElem.1 hb
 have hi':i<s.size:=by simpa using hi
 exact key _ 0 (by omega) h i hi' (Nat.zero_le _)
def nameB (head:ByteArray) (u:Nat):ByteArray:=head ++ ⟨(dec8 u).toArray⟩
theorem nameB_size (head:ByteArray) (u:Nat):(nameB head u).size=head.size+8:=by
 unfold nameB
 rw [ByteArray.size_append]
 show head.size+(dec8 u).toArray.size=_
 simp [dec8_length]
theorem nameB_toList (head:ByteArray) (u:Nat):(nameB head u).data.toList=head.data.toList ++ dec8 u:=by
 unfold nameB
 simp
def placeB (head s:ByteArray):Option Nat:=
 if Lib.hasPrefix s.data.toList head.data.toList=true then
  (let t:=Lib.trimPrefix s.data.toList head.data.toList
   if t.length=8∧∀ b∈t,48≤b.toNat∧b.toNat≤57 then some (val8 t) else none)
 else none
end Go.Proofs.YtajmeimjaapagaaGreatDoor
