/- A part. -/
import Derived.WalkKit
set_option linter.unusedVariables false
set_option linter.unusedSimpArgs false
namespace Go.Proofs.YtajmeimjaapagaaGreatDoor.Cr
def stp (r:Nat):Nat:=r / 2 ^^^ (if r % 2=1 then 3988292384 else 0)
def itr:Nat→Nat→Nat
 | 0,r=>r
 | n+1,r=>itr n (stp r)
theorem stp_odd {r:Nat} (h:r % 2=1):stp r=r / 2 ^^^ 3988292384:=by rw [stp,if_pos h]
theorem stp_even {r:Nat} (h:r % 2≠1):stp r=r / 2:=by rw [stp,if_neg h,Nat.xor_zero]
theorem stp_lt {r:Nat} (h:r<4294967296):stp r<4294967296:=by
 unfold stp
 refine Nat.xor_lt_two_pow (n:=32) (by omega) ?_
 split<;>decide
theorem xor_swap (a b c d:Nat):(a ^^^ b) ^^^ (c ^^^ d)=(a ^^^ c) ^^^ (b ^^^ d):=by
 rw [Nat.xor_assoc,Nat.xor_assoc,←Nat.xor_assoc b,←Nat.xor_assoc c,Nat.xor_comm b c]
theorem stp_xor (a b:Nat):stp (a ^^^ b)=stp a ^^^ stp b:=by
 unfold stp
 rw [xor_swap,Nat.xor_div_two]
 congr 1
 simp only [Nat.xor_mod_two_eq_one]
 by_cases h:a % 2=1<;>by_cases h':b % 2=1<;>simp [h,h']
theorem itr_succ (n r:Nat):itr (n+1) r=stp (itr n r):=by
 induction n generalizing r with
 | zero=>rfl
 | succ n ih=>rw [itr,ih,itr]
theorem itr_lt (n:Nat) {r:Nat} (h:r<4294967296):itr n r<4294967296:=by
 induction n with
 | zero=>exact h
 | succ n ih=>rw [itr_succ];exact stp_lt ih
theorem itr_xor (n a b:Nat):itr n (a ^^^ b)=itr n a ^^^ itr n b:=by
 induction n with
 | zero=>rfl
 | succ n ih=>rw [itr_succ,ih,stp_xor,←itr_succ,←itr_succ]
theorem itr_add (m n r:Nat):itr (m+n) r=itr n (itr m r):=by
 induction n with
 | zero=>rfl
 | succ n ih=>rw [←Nat.add_assoc,itr_succ,ih,←itr_succ]
theorem itr_split (n x:Nat):itr n x=x / 2 ^ n ^^^ itr n (x % 2 ^ n):=by
 induction n generalizing x with
 | zero=>simp [itr,Nat.mod_one]
 | succ n ih=>
  rw [itr,itr,stp,stp,itr_xor,itr_xor,ih (x / 2)]
  have h1:x % 2 ^ (n+1) / 2=x / 2 % 2 ^ n:=by
   rw [Nat.pow_succ,Nat.mul_comm,Nat.mod_mul_right_div_self]
  have h2:x % 2 ^ (n+1) % 2=x % 2:=by
   rw [Nat.pow_succ,Nat.mul_comm,Nat.mod_mul_right_mod]
  have h3:x / 2 ^ (n+1)=x / 2 / 2 ^ n:=by
   rw [Nat.pow_succ,Nat.mul_comm,Nat.div_div_eq_div_mul]
  rw [h1,h2,h3,Nat.xor_assoc]
def bstep (r c:Nat):Nat:=itr 8 (r ^^^ c)
theorem bstep_lt {r c:Nat} (h:r<4294967296) (hc:c<256):bstep r c<4294967296:=
 itr_lt 8 (Nat.xor_lt_two_pow (n:=32) h (by omega))
theorem bstep_tab (r c:Nat) (hc:c<256):bstep r c=r / 256 ^^^ itr 8 (r % 256 ^^^ c):=by
 have hd:(r ^^^ c) / 256=r / 256:=by
  have:=Nat.xor_div_two_pow (n:=8) (a:=r) (b:=c)
  rw [show (2:Nat) ^ 8=256 from rfl,Nat.div_eq_of_lt hc,Nat.xor_zero] at this
  exact this
 have hm:(r ^^^ c) % 256=r % 256 ^^^ c:=by
  have:=Nat.xor_mod_two_pow (n:=8) (a:=r) (b:=c)
  rw [show (2:Nat) ^ 8=256 from rfl,Nat.mod_eq_of_lt hc] at this
  exact this
 rw [bstep,itr_split,show (2:Nat) ^ 8=256 from rfl,hd,hm]
theorem bstep_xor (x y c:Nat):bstep (x ^^^ y) c=bstep x c ^^^ itr 8 y:=by
 rw [bstep,bstep,←itr_xor,Nat.xor_assoc,Nat.xor_assoc,Nat.xor_comm y c]
theorem leap_eq (r a b c d:Nat) (hr:r<4294967296) (ha:a<256) (hb:b<256) (hc:c<256) (hd:d<256) :
 bstep (bstep (bstep (bstep r a) b) c) d =
  itr 32 (r % 256 ^^^ a) ^^^ itr 24 (r / 256 % 256 ^^^ b) ^^^ itr 16 (r / 65536 % 256 ^^^ c) ^^^ itr 8 (r / 16777216 % 256 ^^^ d):=by
 have e2:r / 256 / 256=r / 65536:=by omega
 have e3:r / 65536 / 256=r / 16777216:=by omega
 have e4:r / 16777216 / 256=0:=by omega
 rw [bstep_tab r a ha,bstep_xor,bstep_tab (r / 256) b hb,e2,Nat.xor_assoc (r / 65536),bstep_xor,bstep_tab (r / 65536) c hc,e3,Nat.xor_assoc (r / 16777216),bstep_xor,bstep_tab (r / 16777216) d hd,e4,Nat.zero_xor]
 generalize r / 16777216 % 256 ^^^ d=A
 generalize r / 65536 % 256 ^^^ c=B
 generalize r / 256 % 256 ^^^ b=C
 generalize r % 256 ^^^ a=D
 simp only [itr_xor,←itr_add]
 ac_rfl
def regL (r:Nat) (l:List UInt8):Nat:=l.foldl (fun r c=>bstep r c.toNat) r
theorem regL_append (r:Nat) (l m:List UInt8):regL r (l ++ m)=regL (regL r l) m:=by simp [regL]
theorem regL_snoc (r:Nat) (l:List UInt8) (c:UInt8):regL r (l ++ [c])=bstep (regL r l) c.toNat:=by simp [regL]
theorem regL_lt {r:Nat} (h:r<4294967296) (l:List UInt8):regL r l<4294967296:=by
 induction l generalizing r with
 | nil=>exact h
 | cons c l ih=>exact ih (bstep_lt h c.toNat_lt)
def crcL (l:List UInt8):Nat:=4294967295 - regL 4294967295 l
theorem crcL_lt (l:List UInt8):crcL l<4294967296:=by unfold crcL;omega
theorem ones_sub {x:Nat} (h:x<4294967296):4294967295 - x=4294967295 ^^^ x:=by
 refine Nat.eq_of_testBit_eq fun i=>?_
 have e:=Nat.testBit_two_pow_sub_succ (n:=32) (x:=x) h i
 have f:=Nat.testBit_two_pow_sub_one 32 i
 rw [show 2 ^ 32 - (x+1)=4294967295 - x by omega] at e
 rw [show 2 ^ 32 - 1=4294967295 from rfl] at f
 rw [Nat.testBit_xor,e,f]
 by_cases hi:i<32
 ·simp [hi]
 ·rw [Nat.testBit_lt_two_pow (Nat.lt_of_lt_of_le h (Nat.pow_le_pow_right (n:=2) (by decide) (by omega:32≤i)))]
  simp [hi]
end Go.Proofs.YtajmeimjaapagaaGreatDoor.Cr
