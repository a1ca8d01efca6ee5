/- A part. -/
import Derived.ProofKit
import Derived.Test.YtnemlgfldfedpaaGreatDoorTcr4
set_option linter.unusedVariables false
set_option linter.unusedSimpArgs false
namespace Go.Proofs.YtnemlgfldfedpaaGreatDoor
open Go.RowKit Go.Deep
def Strs (w:World) (base:Nat) (v:Value) (ts:List ByteArray):Prop:=
 ∃ a cap,v = .slice a ts.length cap∧(ts=[]∨∃ b o,a=some ⟨b,o,none⟩∧base≤b∧∀ i,i<ts.length→w.cell? ⟨b,o+i,none⟩=some (.string (ts.getD i ⟨#[]⟩)))
def IntsOf (k:IntKind) (w:World) (v:Value) (zs:List Int):Prop:=
 ∃ a cap,v = .slice a zs.length cap∧(zs=[]∨∃ b o,a=some ⟨b,o,none⟩∧∀ i,i<zs.length→w.cell? ⟨b,o+i,none⟩=some (.int k (zs.getD i 0)))
abbrev Ints:=IntsOf .i64
theorem Strs.cellAt {w:World} {base:Nat} {a:Option Addr} {len cap:Nat} {ts:List ByteArray} (h:Strs w base (.slice a len cap) ts) {i:Nat} (hi:i<ts.length):∃ b o,a=some ⟨b,o,none⟩∧w.cell? ⟨b,o+i,none⟩=some (.string (ts.getD i ⟨#[]⟩)):=by
 obtain ⟨a',cap',e,h⟩:=h
 cases e
 rcases h with h|⟨b,o,rfl,_,h⟩
 ·subst h;simp at hi
 ·exact ⟨b,o,rfl,h i hi⟩
theorem Strs.form {w:World} {base:Nat} {v:Value} {ts:List ByteArray} (h:Strs w base v ts):∃ a cap,v = .slice a ts.length cap:=by
 obtain ⟨a',cap',e,_⟩:=h
 exact ⟨a',cap',e⟩
theorem Strs.below {w w':World} {v:Value} {ts:List ByteArray} {B base:Nat} (h:Strs w base v ts) (hb:Below B w w') (hB:w.heap.size≤B):Strs w' base v ts:=by
 obtain ⟨a,cap,rfl,h⟩:=h
 refine ⟨a,cap,rfl,?_⟩
 rcases h with h|⟨b,o,rfl,hb0,h⟩
 ·exact .inl h
 ·refine .inr ⟨b,o,rfl,hb0,fun i hi=>?_⟩
  have hlt:=World.block_lt_of_cell? _ _ (h i hi)
  exact (hb.cell (p:=⟨b,o+i,none⟩) (Nat.lt_of_lt_of_le hlt hB)).trans (h i hi)
theorem Strs.zero {w:World} {B:Nat} {v:Value} {ts:List ByteArray} (h:Strs w B v ts):Strs w 0 v ts:=by
 obtain ⟨a,cap,rfl,h⟩:=h
 refine ⟨a,cap,rfl,?_⟩
 rcases h with h|⟨b,o,rfl,_,h⟩
 ·exact .inl h
 ·exact .inr ⟨b,o,rfl,Nat.zero_le _,h⟩
theorem below_grown {B:Nat} {w w1 w2:World} (h:Below B w w1) (hg:w1.grownBy w2 none) (hB:B≤w.heap.size):Below B w w2:=
 h.grown hg (Nat.le_trans hB h.size) (fun k e=>by cases e)
theorem below_grown' {B b:Nat} {w w1 w2:World} (h:Below B w w1) (hg:w1.grownBy w2 (some b)) (hB:B≤w.heap.size) (hb:B≤b):Below B w w2:=
 h.grown hg (Nat.le_trans hB h.size) (fun k e=>by cases e;exact hb)
theorem IntsOf.below {k:IntKind} {w w':World} {v:Value} {zs:List Int} {B:Nat} (h:IntsOf k w v zs) (hb:Below B w w') (hB:w.heap.size≤B):IntsOf k w' v zs:=by
 obtain ⟨a,cap,rfl,h⟩:=h
 refine ⟨a,cap,rfl,?_⟩
 rcases h with h|⟨b,o,rfl,h⟩
 ·exact .inl h
 ·refine .inr ⟨b,o,rfl,fun i hi=>?_⟩
  have hlt:=World.block_lt_of_cell? _ _ (h i hi)
  exact (hb.cell (p:=⟨b,o+i,none⟩) (Nat.lt_of_lt_of_le hlt hB)).trans (h i hi)
theorem IntsOf.cellAt {k:IntKind} {w:World} {a:Option Addr} {len cap:Nat} {zs:List Int} (h:IntsOf k w (.slice a len cap) zs) {i:Nat} (hi:i<zs.length):∃ b o,a=some ⟨b,o,none⟩∧len=zs.length∧w.cell? ⟨b,o+i,none⟩=some (.int k (zs.getD i 0)):=by
 obtain ⟨a',cap',e,h⟩:=h
 cases e
 rcases h with h|⟨b,o,rfl,h⟩
 ·subst h;simp at hi
 ·exact ⟨b,o,rfl,rfl,h i hi⟩
theorem append_toArray (a b:List UInt8):(⟨a.toArray⟩:ByteArray) ++ ⟨b.toArray⟩=⟨(a ++ b).toArray⟩:=by
 apply ByteArray.ext
 simp
theorem add_none (b o i:Nat):(⟨b,o,none⟩:Addr).add i=⟨b,o+i,none⟩:=by unfold Addr.add;split<;>simp_all
theorem strs_of {w:World} {x:Addr} {len cap:Nat} {ss:List ByteArray} (hl:len≤cap) (hz:ss.length=cap) (hcell:∀ i,i<ss.length→w.cell? (x.add i)=some (.string (ss.getD i ByteArray.empty))) :
 Strs w 0 (.slice (some x) len cap) (ss.take len):=by
 have hlen:(ss.take len).length=len:=by rw [List.length_take];omega
 refine ⟨some x,cap,by rw [hlen],?_⟩
 rcases Nat.eq_zero_or_pos len with h|h
 ·subst h;exact .inl rfl
 ·right
  obtain ⟨b,off,spot⟩:=x
  have hc:=hcell 0 (by omega)
  have hspot:spot=none:=by simpa [Addr.add] using World.cell?_spot hc
  subst hspot
  refine ⟨b,off,rfl,Nat.zero_le _,fun i hi=>?_⟩
  rw [hlen] at hi
  have:=hcell i (by omega)
  rw [add_none] at this
  rw [show (⟨#[]⟩:ByteArray)=ByteArray.empty from rfl]
  simpa [List.getD_eq_getElem?_getD,List.getElem?_take,hi] using this
theorem extract_of (l:List UInt8) (a b:Nat):(⟨l.toArray⟩:ByteArray).extract a b=⟨((l.take b).drop a).toArray⟩:=by
 apply ByteArray.ext
 simp [ByteArray.data_extract,List.extract_eq_take_drop,List.drop_take]
theorem grownBy_setCell (w:World) (b o:Nat) (v:Value):w.grownBy (w.setCell ⟨b,o,none⟩ v) (some b):=
 ⟨rfl,rfl,rfl,by simp [World.setCell],fun k _ hk=>Below.heap_setCell _ _ _ _ (by simpa using hk)⟩
theorem grownBy_refl (w:World) (r:Option Nat):w.grownBy w r:=⟨rfl,rfl,rfl,Nat.le_refl _,fun _ _ _=>rfl⟩
theorem grownBy_drewN (w:World) (k:Nat) (r:Option Nat):w.grownBy (w.drewN k) r:=⟨rfl,rfl,rfl,Nat.le_refl _,fun _ _ _=>rfl⟩
theorem grownBy_trans {a b c:World} {r:Option Nat} (h:a.grownBy b r) (k:b.grownBy c r):a.grownBy c r:=
 ⟨k.os.trans h.os,k.tape.trans h.tape,k.output.trans h.output,Nat.le_trans h.size k.size,fun i hi hr=>(k.block i (Nat.lt_of_lt_of_le hi h.size) hr).trans (h.block i hi hr)⟩
theorem grownBy_wide {a b:World} (h:a.grownBy b none) (r:Option Nat):a.grownBy b r:=⟨h.os,h.tape,h.output,h.size,fun k hk _=>h.block k hk (by simp)⟩
theorem drewN_add (w:World) (d k:Nat):(w.drewN d).drewN k=w.drewN (d+k):=by simp [World.drewN,Nat.add_assoc]
theorem take_snoc' (ts:List ByteArray) {k:Nat} (h:k<ts.length):ts.take (k+1)=ts.take k ++ [ts.getD k ⟨#[]⟩]:=by
 rw [List.take_succ_eq_append_getElem h,List.getD_eq_getElem?_getD,List.getElem?_eq_getElem h]
 rfl
theorem ba_toList (s:ByteArray):(⟨s.toList.toArray⟩:ByteArray)=s:=by
 rw [ByteArray.toList_eq]
theorem take_snoc (s:ByteArray) (k:Nat) (h:k<s.size):s.data.toList.take (k+1)=s.data.toList.take k ++ [s[k]]:=by
 rw [List.take_succ_eq_append_getElem (by simpa using h)];rfl
def numB:Nat→Nat→List UInt8
 | 0,_=>[]
 | n+1,x=>UInt8.ofNat (x / 256 ^ n) :: numB n x
theorem numB_length (n x:Nat):(numB n x).length=n:=by
 induction n with
 | zero=>rfl
 | succ n ih=>simp [numB,ih]
def by8 (c:UInt8):Value:=.int .u8 c.toNat
theorem by8_shift (x m:Nat):Value.int .u8 ((x:Int) / 2 ^ (8*m) % 256)=by8 (UInt8.ofNat (x / 256 ^ m)):=by
 unfold by8
 have h:((x:Int) / 2 ^ (8*m) % 256)=((x / 256 ^ m % 256:Nat):Int):=by
  rw [show (256:Nat) ^ m=2 ^ (8*m) from by rw [Nat.pow_mul]]
  rw [Int.natCast_emod,Int.natCast_ediv,Int.natCast_pow]
  rfl
 rw [h,UInt8.toNat_ofNat']
theorem below_alloc {w w1:World} (h:Below w.heap.size w w1) (o:Obj):Below w.heap.size w (w1.alloc o):=h.alloc h.size o
theorem below_drewN {B:Nat} {a w:World} (h:Below B a w) (n:Nat):Below B a (w.drewN n):=⟨h.os,h.tape,h.output,h.size,h.block⟩
def flatB (ts:List ByteArray):List UInt8:=ts.flatMap fun t=>t.data.toList
theorem strs_one (w:World) (s:ByteArray):Strs (w.alloc (.cells #[.string s] 9)) 0 (.slice (some ⟨w.heap.size,0,none⟩) 1 1) [s]:=
 ⟨some ⟨w.heap.size,0,none⟩,1,rfl,.inr ⟨_,_,rfl,Nat.zero_le _,fun i hi=>by
  obtain rfl:i=0:=by simp at hi;exact hi
  simp⟩⟩
end Go.Proofs.YtnemlgfldfedpaaGreatDoor
namespace Go.Proofs.YtnemlgfldfedpaaGreatDoor.Oc
open Go.RowKit Go.Deep
theorem extract_of (l:List UInt8) (a b:Nat):(⟨l.toArray⟩:ByteArray).extract a b=⟨((l.take b).drop a).toArray⟩:=by
 apply ByteArray.ext
 simp [ByteArray.data_extract,List.extract_eq_take_drop,List.drop_take]
theorem getN_cons (c:UInt8) (l:List UInt8):getN (c :: l)=c.toNat*256 ^ l.length+getN l:=by
 have h:∀ (l:List UInt8) (a:Nat),l.foldl (fun a c=>256*a+c.toNat) a=a*256 ^ l.length+getN l:=by
  intro l
  induction l with
  | nil=>intro a;simp [getN]
  | cons d l ih=>
   intro a
   rw [List.foldl_cons,ih,List.length_cons,Nat.pow_succ]
   unfold getN
   rw [List.foldl_cons,ih (256*0+d.toNat)]
   unfold getN
   rw [Nat.add_mul,Nat.mul_zero,Nat.zero_add,←Nat.add_assoc,Nat.mul_comm 256 a,Nat.mul_assoc,Nat.mul_comm 256]
 unfold getN
 rw [List.foldl_cons,h]
 simp [getN]
theorem getN_numB:∀ n x:Nat,x<256 ^ n→getN (numB n x)=x:=by
 intro n
 induction n with
 | zero=>intro x hx;simp at hx;subst hx;rfl
 | succ n ih=>
  intro x hx
  rw [numB,getN_cons,numB_length,UInt8.toNat_ofNat']
  have hp:0<256 ^ n:=Nat.pow_pos (by decide)
  have hd:x / 256 ^ n<256:=by rw [Nat.div_lt_iff_lt_mul hp,Nat.mul_comm,←Nat.pow_succ];exact hx
  rw [Nat.mod_eq_of_lt hd]
  have hr:getN (numB n x)=x % 256 ^ n:=by
   have hm:∀ y,numB n y=numB n (y % 256 ^ n):=by
    intro y
    clear ih hx hd
    have:∀ m,m≤n→numB m y=numB m (y % 256 ^ n):=by
     intro m
     induction m with
     | zero=>intro _;rfl
     | succ m ihm=>
      intro hm
      rw [numB,numB,ihm (by omega)]
      congr 1
      apply UInt8.toNat_inj.1
      rw [UInt8.toNat_ofNat',UInt8.toNat_ofNat']
      have e:256 ^ n=256 ^ m*(256*256 ^ (n - m - 1)):=by rw [←Nat.pow_succ',←Nat.pow_add];congr 1;omega
      rw [e,Nat.mod_mul_right_div_self,Nat.mod_mul_right_mod]
    exact this n (Nat.le_refl _)
   rw [hm x]
   exact ih _ (Nat.mod_lt _ hp)
  rw [hr]
  exact Nat.div_add_mod' x (256 ^ n)
theorem cutS_read (l r:List UInt8):cutS ⟨(l ++ r).toArray⟩ l.length=(⟨l.toArray⟩,⟨r.toArray⟩,0):=by
 have hs:(⟨(l ++ r).toArray⟩:ByteArray).size=l.length+r.length:=by simp [ByteArray.size]
 rw [cutS,if_neg (by omega),if_neg (by rw [hs];omega),extract_of,extract_of,hs,Int.toNat_natCast,List.take_left,←List.length_append,List.take_length,List.drop_left]
 rfl
theorem numS_read (n x:Nat) (h1:1≤n) (h7:n≤7) (hx:x<256 ^ n) (r:List UInt8):numS ⟨(numB n x ++ r).toArray⟩ n=(x,⟨r.toArray⟩,0):=by
 have hc:=cutS_read (numB n x) r
 rw [numB_length] at hc
 rw [numS,if_pos ⟨by omega,by omega⟩,hc]
 simp [getN_numB n x hx]
theorem append_toArray (a b:List UInt8):(⟨a.toArray⟩:ByteArray) ++ ⟨b.toArray⟩=⟨(a ++ b).toArray⟩:=by
 apply ByteArray.ext
 simp
theorem bytes_of (s:ByteArray):∃ l:List UInt8,s=⟨l.toArray⟩:=⟨s.data.toList,by simp⟩
theorem size_of (l:List UInt8):(⟨l.toArray⟩:ByteArray).size=l.length:=by simp [ByteArray.size]
def txtB (s:ByteArray):List UInt8:=numB 2 s.size ++ s.data.toList
def listB (l:List ByteArray):List UInt8:=numB 1 l.length ++ l.flatMap txtB
theorem txtB_length (s:ByteArray):(txtB s).length=2+s.size:=by
 unfold txtB;rw [List.length_append,numB_length];rfl
theorem refText_any (s:ByteArray) (w:World) (hs:s.size≤100000000):Calls Tryz.prog 63 #[.string s] w fun e w'=>e = .returned (.string ⟨(txtB s).toArray⟩)∧Below w.heap.size w w':=by
 obtain ⟨l,rfl⟩:=bytes_of s
 obtain ⟨m,hm⟩:∃ m,m=(⟨l.toArray⟩:ByteArray).size:=⟨_,rfl⟩
 have hl:l.length=m:=by rw [hm,size_of]
 have HL:=Lib.hid hl
 rw [←hm] at hs
 have HM:=Lib.hid hm
 obtain ⟨M,hM⟩:∃ M,M=numB 2 m:=⟨_,rfl⟩
 have hMl:M.length=2:=by rw [hM,numB_length]
 have hMl2:M.length≤2:=by omega
 have hll:l.length≤100000000:=by omega
 have HMM:=Lib.hid hM
 clear hl hm hM hMl
 go_enter Tryz.func63,Tryz.ntmps63
 go_wp2_with fail
 refine (refNum_any 2 l.length _ (by omega) (by omega)).mono ?_
 rintro e w3 ⟨rfl,hb⟩
 rw [HL.out,←HMM.out]
 have HB:=Lib.hid hb
 clear hb
 go_wp2_with fail
 go_ret
 refine ⟨?_,HB.out⟩
 rw [txtB,←HM.out,←HMM.out,←append_toArray]
 rfl
theorem Strs.cellAt {w:World} {base:Nat} {a:Option Addr} {len cap:Nat} {ts:List ByteArray} (h:Strs w base (.slice a len cap) ts) {i:Nat} (hi:i<ts.length):∃ b o,a=some ⟨b,o,none⟩∧w.cell? ⟨b,o+i,none⟩=some (.string (ts.getD i ⟨#[]⟩)):=by
 obtain ⟨a',cap',e,h⟩:=h
 cases e
 rcases h with h|⟨b,o,rfl,_,h⟩
 ·subst h;simp at hi
 ·exact ⟨b,o,rfl,h i hi⟩
theorem Strs.form {w:World} {base:Nat} {v:Value} {ts:List ByteArray} (h:Strs w base v ts):∃ a cap,v = .slice a ts.length cap:=by
 obtain ⟨a',cap',e,_⟩:=h
 exact ⟨a',cap',e⟩
theorem Strs.below {w w':World} {v:Value} {ts:List ByteArray} {B base:Nat} (h:Strs w base v ts) (hb:Below B w w') (hB:w.heap.size≤B):Strs w' base v ts:=by
 obtain ⟨a,cap,rfl,h⟩:=h
 refine ⟨a,cap,rfl,?_⟩
 rcases h with h|⟨b,o,rfl,hb0,h⟩
 ·exact .inl h
 ·refine .inr ⟨b,o,rfl,hb0,fun i hi=>?_⟩
  have hlt:=World.block_lt_of_cell? _ _ (h i hi)
  exact (hb.cell (p:=⟨b,o+i,none⟩) (Nat.lt_of_lt_of_le hlt hB)).trans (h i hi)
theorem flat_snoc (ts:List ByteArray) (k:Nat) (h:k<ts.length):(ts.take (k+1)).flatMap txtB=(ts.take k).flatMap txtB ++ txtB (ts.getD k ⟨#[]⟩):=by
 rw [List.take_succ_eq_append_getElem h,List.flatMap_append,List.flatMap_singleton,List.getD_eq_getElem?_getD,List.getElem?_eq_getElem h]
 rfl
theorem flat_length (ts:List ByteArray) (hs:∀ t∈ts,t.size≤100000):(ts.flatMap txtB).length≤100002*ts.length:=by
 induction ts with
 | nil=>simp
 | cons t ts ih=>
  rw [List.flatMap_cons,List.length_append,txtB_length,List.length_cons]
  have:=ih fun x hx=>hs x (List.mem_cons_of_mem _ hx)
  have:=hs t List.mem_cons_self
  omega
set_option maxHeartbeats 400000 in
theorem refList_any (v:Value) (ts:List ByteArray) (w:World) (hv:Strs w 0 v ts) (hl:ts.length≤1000) (hs:∀ t∈ts,t.size≤100000):Calls Tryz.prog 64 #[v] w fun e w'=>e = .returned (.string ⟨(listB ts).toArray⟩)∧Below w.heap.size w w':=by
 have HV:=Lib.hid hv
 have HS:=Lib.hid hs
 obtain ⟨a,cap,rfl⟩:=hv.form
 clear hv hs
 go_enter Tryz.func64,Tryz.ntmps64
 go_wp2_with fail
 refine (refNum_any 1 ts.length _ (by omega) (by omega)).mono ?_
 rintro e w1 ⟨rfl,hb⟩
 have HB:=Lib.hid hb
 clear hb
 obtain ⟨M,hM⟩:∃ M,M=numB 1 ts.length:=⟨_,rfl⟩
 rw [←hM]
 have HM:=Lib.hid hM
 clear hM
 go_wp2_with fail
 go_loopw [3,4] (fun s i wr=>∃ k:Nat,k≤ts.length∧i = .int .i64 k∧s = .string ⟨(M ++ (ts.take k).flatMap txtB).toArray⟩∧Below w.heap.size w wr) (fun _ i _=>ts.length - (intOf i).toNat)
 case atStart=>exact ⟨0,Nat.zero_le _,rfl,by simp,HB.out⟩
 case round=>
  obtain ⟨k,hk,rfl,rfl,hb⟩:=hrel
  have HBR:=Lib.hid hb
  clear hb
  obtain ⟨L,hL⟩:∃ L,L=M ++ (ts.take k).flatMap txtB:=⟨_,rfl⟩
  rw [←hL]
  by_cases hlt:k<ts.length
  ·obtain ⟨b,o,rfl,hck⟩:=(HV.out.below HBR.out (Nat.le_refl _)).cellAt hlt
   have hsz:=HS.out (ts.getD k ⟨#[]⟩) (by simp [List.getD_eq_getElem?_getD,List.getElem?_eq_getElem hlt])
   have hLl:L.length≤1000000000:=by
    rw [hL,List.length_append]
    have:=flat_length (ts.take k) fun t ht=>HS.out t (List.mem_of_mem_take ht)
    have e:(ts.take k).length=k:=by rw [List.length_take];omega
    rw [e] at this
    have:M.length=1:=by rw [HM.out,numB_length]
    omega
   have hsn:=flat_snoc ts k hlt
   obtain ⟨t,ht⟩:∃ t,t=ts.getD k ⟨#[]⟩:=⟨_,rfl⟩
   rw [←ht] at hck hsz hsn
   obtain ⟨X,hX⟩:∃ X,X=txtB t:=⟨_,rfl⟩
   have hXl:X.length≤100002:=by rw [hX,txtB_length];omega
   rw [←hX] at hsn
   have HSN:=Lib.hid hsn
   have HL:=Lib.hid hL
   have HX:=Lib.hid hX
   clear hL ht hX hsn
   go_wp2_with fail
   refine (refText_any t _ (by omega)).mono ?_
   rintro e w3 ⟨rfl,hb⟩
   rw [←HX.out]
   have HB3:=Lib.hid (HBR.out.trans (hb.mono HBR.out.size))
   clear hb
   go_wp2_with fail
   refine ⟨⟨k+1,by omega,by go_num,?_,HB3.out⟩,by simp [intOf];omega⟩
   rw [HSN.out,append_toArray,HL.out,List.append_assoc]
  ·obtain rfl:k=ts.length:=by omega
   have HL:=Lib.hid hL
   clear hL
   go_wp2_with fail
   go_ret
   refine ⟨?_,HBR.out⟩
   have h:=HL.out
   rw [List.take_of_length_le (Nat.le_refl _),HM.out] at h
   rw [listB,←h]
   rfl
theorem drewN_add (w:World) (d k:Nat):(w.drewN d).drewN k=w.drewN (d+k):=by simp [World.drewN,Nat.add_assoc]
theorem take_snoc' (ts:List ByteArray) {k:Nat} (h:k<ts.length):ts.take (k+1)=ts.take k ++ [ts.getD k ⟨#[]⟩]:=by
 rw [List.take_succ_eq_append_getElem h,List.getD_eq_getElem?_getD,List.getElem?_eq_getElem h]
 rfl
theorem ba_toList (s:ByteArray):(⟨s.toList.toArray⟩:ByteArray)=s:=by
 rw [ByteArray.toList_eq]
set_option maxHeartbeats 400000 in
theorem same_any (v u:Value) (ts us:List ByteArray) (w:World) (hv:Strs w 0 v ts) (hu:Strs w 0 u us) (hl:ts.length≤1000000):Calls Tryz.prog 46 #[v,u] w fun e w'=>e = .returned (.bool (decide (ts=us)))∧∃ k,w'=w.drewN k:=by
 have HV:=Lib.hid hv
 have HU:=Lib.hid hu
 obtain ⟨a,cap,rfl⟩:=hv.form
 obtain ⟨c,cap2,rfl⟩:=hu.form
 clear hv hu
 by_cases hlen:ts.length=us.length
 ·have hb:((ts.length:Int) == us.length)=true:=by simp [hlen]
  have hnb:((ts.length:Int) != us.length)=false:=by simp [hlen]
  have HLEN:=Lib.hid hlen
  clear hlen
  go_enter Tryz.func46,Tryz.ntmps46
  go_wp2_with fail
  go_loopw [5] (fun i wr=>∃ k:Nat,k≤ts.length∧i = .int .i64 k∧ts.take k=us.take k∧∃ d,wr=w.drewN d) (fun i _=>ts.length - (intOf i).toNat)
  case atStart=>exact ⟨0,Nat.zero_le _,rfl,rfl,0,rfl⟩
  case round=>
   obtain ⟨k,hk,rfl,heq,d,rfl⟩:=hrel
   have HEQ:=Lib.hid heq
   clear heq
   by_cases hlt:k<ts.length
   ·obtain ⟨b,o,rfl,hck⟩:=HV.out.cellAt hlt
    obtain ⟨b2,o2,rfl,hck2⟩:=HU.out.cellAt (i:=k) (by rw [←HLEN.out];exact hlt)
    have hlt2:k<us.length:=by rw [←HLEN.out];exact hlt
    obtain ⟨t,ht⟩:∃ t,t=ts.getD k ⟨#[]⟩:=⟨_,rfl⟩
    obtain ⟨u,hu⟩:∃ t,t=us.getD k ⟨#[]⟩:=⟨_,rfl⟩
    rw [←ht] at hck
    rw [←hu] at hck2
    have HT:=Lib.hid ht
    have HUU:=Lib.hid hu
    clear ht hu
    by_cases htu:t=u
    ·subst htu
     go_wp2_with fail
     go_quiet (fail)
     go_wp2_with fail
     refine ⟨⟨k+1,by omega,by go_num,?_,_,rfl⟩,by simp [intOf];omega⟩
     rw [take_snoc' ts hlt,take_snoc' us hlt2,HEQ.out,←HT.out,←HUU.out]
    ·have hne:t.toList≠u.toList:=fun h=>htu (by rw [←ba_toList t,h,ba_toList u])
     have HNE:Hid (¬ ts=us):=Lib.hid fun h=>htu (by rw [HT.out,HUU.out,h])
     have h1:(t.toList == u.toList)=false:=by simpa using hne
     have h2:(t.toList != u.toList)=true:=by simpa using hne
     clear htu hne
     go_wp2_with fail
     go_quiet (fail)
     go_wp2_with fail
     go_ret
     exact ⟨by rw [decide_eq_false HNE.out];rfl,d+_,drewN_add _ _ _⟩
   ·obtain rfl:k=ts.length:=by omega
    have h:ts=us:=by
     have h1:=HEQ.out
     rwa [List.take_of_length_le (Nat.le_refl _),List.take_of_length_le (by rw [HLEN.out];exact Nat.le_refl _)] at h1
    have HD:=Lib.hid (decide_eq_true h)
    clear h
    go_wp2_with fail
    go_ret
    exact ⟨by rw [HD.out];rfl,_,rfl⟩
 ·have HD:=Lib.hid (decide_eq_false (show ¬ ts=us from fun h=>hlen (by rw [h])))
  have hb:((ts.length:Int) == us.length)=false:=by simpa using (show ¬ (ts.length:Int)=us.length by omega)
  have hnb:((ts.length:Int) != us.length)=true:=by simpa using (show ¬ (ts.length:Int)=us.length by omega)
  clear hlen
  go_enter Tryz.func46,Tryz.ntmps46
  go_wp2_with fail
  go_ret
  exact ⟨by rw [HD.out];rfl,0,rfl⟩
end Go.Proofs.YtnemlgfldfedpaaGreatDoor.Oc
namespace Go.Proofs.YtnemlgfldfedpaaGreatDoor.Cr
open Go.RowKit Go.Deep
theorem conv_one (w:World) (p:Nat):(convert 81 9 (.slice (some ⟨w.heap.size,0,none⟩) 1 1)).run Tryz.prog (w.alloc (.cells #[.int .u8 ((p:Int) % 256)] 5)) = .ok (.string ⟨[UInt8.ofNat p].toArray⟩) (w.alloc (.cells #[.int .u8 ((p:Int) % 256)] 5)):=by
 refine run_convert_bytes_back _ 81 9 5 _ 1 [UInt8.ofNat p] Tryz.underlying81 Tryz.underlying5 Tryz.underlying9 fun j hj=>?_
 obtain rfl:j=0:=by simp at hj;exact hj
 have:=by8_shift p 0
 simp only [Nat.mul_zero,Int.pow_zero,Int.ediv_one,Nat.pow_zero,Nat.div_one] at this
 rw [this]
 simp [by8,Addr.add]
set_option maxHeartbeats 400000 in
theorem refNum_any (n x:Nat) (w:World) (hn:n≤7) (hx:x<9223372036854775807):Calls Tryz.prog 62 #[.int .i64 n,.int .i64 x] w fun e w'=>e = .returned (.string ⟨(numB n x).toArray⟩)∧Below w.heap.size w w':=by
 go_enter Tryz.func62,Tryz.ntmps62
 go_wp2_with fail
 go_loopw [1,5,6] (fun y s i wr=>∃ k:Nat,k≤n∧i = .int .i64 k∧y = .int .i64 ((x / 256 ^ k:Nat):Int)∧s = .string ⟨(numB k x).toArray⟩∧Below w.heap.size w wr) (fun _ _ i _=>n - (intOf i).toNat)
 case atStart=>exact ⟨0,Nat.zero_le _,rfl,by simp,rfl,Below.refl _ _⟩
 case round=>
  obtain ⟨k,hk,rfl,rfl,rfl,hb⟩:=hrel
  have HB:=Lib.hid hb
  clear hb
  by_cases hlt:k<n
  ·have hle:x / 256 ^ k≤x:=Nat.div_le_self _ _
   obtain ⟨p,hpp⟩:∃ p,p=x / 256 ^ k:=⟨_,rfl⟩
   obtain ⟨l,hll⟩:∃ l,l=numB k x:=⟨_,rfl⟩
   rw [←hpp] at hle ⊢
   rw [←hll]
   have HPP:=Lib.hid hpp
   have HLL:=Lib.hid hll
   clear hpp hll
   have hcv:=conv_one wr p
   have hl7:l.length≤7:=by rw [HLL.out,numB_length];omega
   go_wp2_with fail
   refine ⟨⟨k+1,by omega,by go_num,?_,?_,HB.out.alloc HB.out.size _⟩,by simp [intOf];omega⟩
   ·rw [HPP.out,Nat.pow_succ,←Nat.div_div_eq_div_mul,Int.natCast_ediv (x / 256 ^ k) 256];rfl
   ·rw [HPP.out,HLL.out];rfl
  ·obtain rfl:k=n:=by omega
   go_wp2_with fail
   go_ret
   exact ⟨rfl,HB.out⟩
end Go.Proofs.YtnemlgfldfedpaaGreatDoor.Cr
