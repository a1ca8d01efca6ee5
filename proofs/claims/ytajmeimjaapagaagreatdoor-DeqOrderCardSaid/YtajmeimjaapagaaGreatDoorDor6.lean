/- A part. -/
import Derived.ProofKit
import Derived.Test.YtajmeimjaapagaaGreatDoorDor5
set_option linter.unusedVariables false
set_option linter.unusedSimpArgs false
namespace Go.Proofs.YtajmeimjaapagaaGreatDoor
open Go.RowKit Go.Deep
def Strs (w:World) (base:Nat) (v:Value) (ts:List ByteArray):Prop:=
 ∃ a cap,v = .slice a ts.length cap∧(ts=[]∨∃ b o,a=some ⟨b,o,none⟩∧base≤b∧∀ i,i<ts.length→w.cell? ⟨b,o+i,none⟩=some (.string (ts.getD i ⟨#[]⟩)))
def IntsOf (k:IntKind) (w:World) (v:Value) (zs:List Int):Prop:=
 ∃ a cap,v = .slice a zs.length cap∧(zs=[]∨∃ b o,a=some ⟨b,o,none⟩∧∀ i,i<zs.length→w.cell? ⟨b,o+i,none⟩=some (.int k (zs.getD i 0)))
abbrev Ints:=IntsOf .i64
theorem Strs.cellAt {w:World} {base:Nat} {a:Option Addr} {len cap:Nat} {ts:List ByteArray} (h:Strs w base (.slice a len cap) ts) {i:Nat} (hi:i<ts.length):∃ b o,a=some ⟨b,o,none⟩∧w.cell? ⟨b,o+i,none⟩=some (.string (ts.getD i ⟨#[]⟩)):=by
 obtain ⟨a',cap',e,h⟩:=h
 cases e
 rcases h with h|⟨b,o,rfl,_,h⟩
 ·subst h;simp at hi
 ·exact ⟨b,o,rfl,h i hi⟩
theorem Strs.form {w:World} {base:Nat} {v:Value} {ts:List ByteArray} (h:Strs w base v ts):∃ a cap,v = .slice a ts.length cap:=by
 obtain ⟨a',cap',e,_⟩:=h
 exact ⟨a',cap',e⟩
theorem Strs.below {w w':World} {v:Value} {ts:List ByteArray} {B base:Nat} (h:Strs w base v ts) (hb:Below B w w') (hB:w.heap.size≤B):Strs w' base v ts:=by
 obtain ⟨a,cap,rfl,h⟩:=h
 refine ⟨a,cap,rfl,?_⟩
 rcases h with h|⟨b,o,rfl,hb0,h⟩
 ·exact .inl h
 ·refine .inr ⟨b,o,rfl,hb0,fun i hi=>?_⟩
  have hlt:=World.block_lt_of_cell? _ _ (h i hi)
  exact (hb.cell (p:=⟨b,o+i,none⟩) (Nat.lt_of_lt_of_le hlt hB)).trans (h i hi)
theorem Strs.zero {w:World} {B:Nat} {v:Value} {ts:List ByteArray} (h:Strs w B v ts):Strs w 0 v ts:=by
 obtain ⟨a,cap,rfl,h⟩:=h
 refine ⟨a,cap,rfl,?_⟩
 rcases h with h|⟨b,o,rfl,_,h⟩
 ·exact .inl h
 ·exact .inr ⟨b,o,rfl,Nat.zero_le _,h⟩
theorem below_grown {B:Nat} {w w1 w2:World} (h:Below B w w1) (hg:w1.grownBy w2 none) (hB:B≤w.heap.size):Below B w w2:=
 h.grown hg (Nat.le_trans hB h.size) (fun k e=>by cases e)
theorem below_grown' {B b:Nat} {w w1 w2:World} (h:Below B w w1) (hg:w1.grownBy w2 (some b)) (hB:B≤w.heap.size) (hb:B≤b):Below B w w2:=
 h.grown hg (Nat.le_trans hB h.size) (fun k e=>by cases e;exact hb)
theorem IntsOf.below {k:IntKind} {w w':World} {v:Value} {zs:List Int} {B:Nat} (h:IntsOf k w v zs) (hb:Below B w w') (hB:w.heap.size≤B):IntsOf k w' v zs:=by
 obtain ⟨a,cap,rfl,h⟩:=h
 refine ⟨a,cap,rfl,?_⟩
 rcases h with h|⟨b,o,rfl,h⟩
 ·exact .inl h
 ·refine .inr ⟨b,o,rfl,fun i hi=>?_⟩
  have hlt:=World.block_lt_of_cell? _ _ (h i hi)
  exact (hb.cell (p:=⟨b,o+i,none⟩) (Nat.lt_of_lt_of_le hlt hB)).trans (h i hi)
theorem IntsOf.cellAt {k:IntKind} {w:World} {a:Option Addr} {len cap:Nat} {zs:List Int} (h:IntsOf k w (.slice a len cap) zs) {i:Nat} (hi:i<zs.length):∃ b o,a=some ⟨b,o,none⟩∧len=zs.length∧w.cell? ⟨b,o+i,none⟩=some (.int k (zs.getD i 0)):=by
 obtain ⟨a',cap',e,h⟩:=h
 cases e
 rcases h with h|⟨b,o,rfl,h⟩
 ·subst h;simp at hi
 ·exact ⟨b,o,rfl,rfl,h i hi⟩
theorem append_toArray (a b:List UInt8):(⟨a.toArray⟩:ByteArray) ++ ⟨b.toArray⟩=⟨(a ++ b).toArray⟩:=by
 apply ByteArray.ext
 simp
theorem add_none (b o i:Nat):(⟨b,o,none⟩:Addr).add i=⟨b,o+i,none⟩:=by unfold Addr.add;split<;>simp_all
theorem ints_of {k:IntKind} {w:World} {x:Addr} {len cap:Nat} {zs:List Int} (hl:len≤cap) (hz:zs.length=cap) (hcell:∀ i,i<zs.length→w.cell? (x.add i)=some (.int k (zs.getD i 0))) :
 IntsOf k w (.slice (some x) len cap) (zs.take len):=by
 have hlen:(zs.take len).length=len:=by rw [List.length_take];omega
 refine ⟨some x,cap,by rw [hlen],?_⟩
 rcases Nat.eq_zero_or_pos len with h|h
 ·subst h;exact .inl rfl
 ·right
  obtain ⟨b,off,spot⟩:=x
  have hc:=hcell 0 (by omega)
  have hspot:spot=none:=by simpa [Addr.add] using World.cell?_spot hc
  subst hspot
  refine ⟨b,off,rfl,fun i hi=>?_⟩
  rw [hlen] at hi
  have:=hcell i (by omega)
  rw [add_none] at this
  simpa [List.getD_eq_getElem?_getD,List.getElem?_take,hi] using this
theorem extract_of (l:List UInt8) (a b:Nat):(⟨l.toArray⟩:ByteArray).extract a b=⟨((l.take b).drop a).toArray⟩:=by
 apply ByteArray.ext
 simp [ByteArray.data_extract,List.extract_eq_take_drop,List.drop_take]
theorem grownBy_setCell (w:World) (b o:Nat) (v:Value):w.grownBy (w.setCell ⟨b,o,none⟩ v) (some b):=
 ⟨rfl,rfl,rfl,by simp [World.setCell],fun k _ hk=>Below.heap_setCell _ _ _ _ (by simpa using hk)⟩
theorem grownBy_refl (w:World) (r:Option Nat):w.grownBy w r:=⟨rfl,rfl,rfl,Nat.le_refl _,fun _ _ _=>rfl⟩
theorem grownBy_drewN (w:World) (k:Nat) (r:Option Nat):w.grownBy (w.drewN k) r:=⟨rfl,rfl,rfl,Nat.le_refl _,fun _ _ _=>rfl⟩
theorem grownBy_trans {a b c:World} {r:Option Nat} (h:a.grownBy b r) (k:b.grownBy c r):a.grownBy c r:=
 ⟨k.os.trans h.os,k.tape.trans h.tape,k.output.trans h.output,Nat.le_trans h.size k.size,fun i hi hr=>(k.block i (Nat.lt_of_lt_of_le hi h.size) hr).trans (h.block i hi hr)⟩
theorem grownBy_wide {a b:World} (h:a.grownBy b none) (r:Option Nat):a.grownBy b r:=⟨h.os,h.tape,h.output,h.size,fun k hk _=>h.block k hk (by simp)⟩
theorem drewN_add (w:World) (d k:Nat):(w.drewN d).drewN k=w.drewN (d+k):=by simp [World.drewN,Nat.add_assoc]
theorem take_snoc' (ts:List ByteArray) {k:Nat} (h:k<ts.length):ts.take (k+1)=ts.take k ++ [ts.getD k ⟨#[]⟩]:=by
 rw [List.take_succ_eq_append_getElem h,List.getD_eq_getElem?_getD,List.getElem?_eq_getElem h]
 rfl
theorem ba_toList (s:ByteArray):(⟨s.toList.toArray⟩:ByteArray)=s:=by
 rw [ByteArray.toList_eq]
theorem take_snoc (s:ByteArray) (k:Nat) (h:k<s.size):s.data.toList.take (k+1)=s.data.toList.take k ++ [s[k]]:=by
 rw [List.take_succ_eq_append_getElem (by simpa using h)];rfl
def numB:Nat→Nat→List UInt8
 | 0,_=>[]
 | n+1,x=>UInt8.ofNat (x / 256 ^ n) :: numB n x
theorem numB_length (n x:Nat):(numB n x).length=n:=by
 induction n with
 | zero=>rfl
 | succ n ih=>simp [numB,ih]
def by8 (c:UInt8):Value:=.int .u8 c.toNat
theorem below_alloc {w w1:World} (h:Below w.heap.size w w1) (o:Obj):Below w.heap.size w (w1.alloc o):=h.alloc h.size o
theorem below_drewN {B:Nat} {a w:World} (h:Below B a w) (n:Nat):Below B a (w.drewN n):=⟨h.os,h.tape,h.output,h.size,h.block⟩
def flatB (ts:List ByteArray):List UInt8:=ts.flatMap fun t=>t.data.toList
theorem strs_one (w:World) (s:ByteArray):Strs (w.alloc (.cells #[.string s] 9)) 0 (.slice (some ⟨w.heap.size,0,none⟩) 1 1) [s]:=
 ⟨some ⟨w.heap.size,0,none⟩,1,rfl,.inr ⟨_,_,rfl,Nat.zero_le _,fun i hi=>by
  obtain rfl:i=0:=by simp at hi;exact hi
  simp⟩⟩
end Go.Proofs.YtajmeimjaapagaaGreatDoor
namespace Go.Proofs.YtajmeimjaapagaaGreatDoor.Oc
open Go.RowKit Go.Deep
theorem add_none (b o i:Nat):(⟨b,o,none⟩:Addr).add i=⟨b,o+i,none⟩:=by unfold Addr.add;split<;>simp_all
theorem extract_of (l:List UInt8) (a b:Nat):(⟨l.toArray⟩:ByteArray).extract a b=⟨((l.take b).drop a).toArray⟩:=by
 apply ByteArray.ext
 simp [ByteArray.data_extract,List.extract_eq_take_drop,List.drop_take]
theorem getN_cons (c:UInt8) (l:List UInt8):getN (c :: l)=c.toNat*256 ^ l.length+getN l:=by
 have h:∀ (l:List UInt8) (a:Nat),l.foldl (fun a c=>256*a+c.toNat) a=a*256 ^ l.length+getN l:=by
  intro l
  induction l with
  | nil=>intro a;simp [getN]
  | cons d l ih=>
   intro a
   rw [List.foldl_cons,ih,List.length_cons,Nat.pow_succ]
   unfold getN
   rw [List.foldl_cons,ih (256*0+d.toNat)]
   unfold getN
   rw [Nat.add_mul,Nat.mul_zero,Nat.zero_add,←Nat.add_assoc,Nat.mul_comm 256 a,Nat.mul_assoc,Nat.mul_comm 256]
 unfold getN
 rw [List.foldl_cons,h]
 simp [getN]
theorem getN_numB:∀ n x:Nat,x<256 ^ n→getN (numB n x)=x:=by
 intro n
 induction n with
 | zero=>intro x hx;simp at hx;subst hx;rfl
 | succ n ih=>
  intro x hx
  rw [numB,getN_cons,numB_length,UInt8.toNat_ofNat']
  have hp:0<256 ^ n:=Nat.pow_pos (by decide)
  have hd:x / 256 ^ n<256:=by rw [Nat.div_lt_iff_lt_mul hp,Nat.mul_comm,←Nat.pow_succ];exact hx
  rw [Nat.mod_eq_of_lt hd]
  have hr:getN (numB n x)=x % 256 ^ n:=by
   have hm:∀ y,numB n y=numB n (y % 256 ^ n):=by
    intro y
    clear ih hx hd
    have:∀ m,m≤n→numB m y=numB m (y % 256 ^ n):=by
     intro m
     induction m with
     | zero=>intro _;rfl
     | succ m ihm=>
      intro hm
      rw [numB,numB,ihm (by omega)]
      congr 1
      apply UInt8.toNat_inj.1
      rw [UInt8.toNat_ofNat',UInt8.toNat_ofNat']
      have e:256 ^ n=256 ^ m*(256*256 ^ (n - m - 1)):=by rw [←Nat.pow_succ',←Nat.pow_add];congr 1;omega
      rw [e,Nat.mod_mul_right_div_self,Nat.mod_mul_right_mod]
    exact this n (Nat.le_refl _)
   rw [hm x]
   exact ih _ (Nat.mod_lt _ hp)
  rw [hr]
  exact Nat.div_add_mod' x (256 ^ n)
theorem cutS_read (l r:List UInt8):cutS ⟨(l ++ r).toArray⟩ l.length=(⟨l.toArray⟩,⟨r.toArray⟩,0):=by
 have hs:(⟨(l ++ r).toArray⟩:ByteArray).size=l.length+r.length:=by simp [ByteArray.size]
 rw [cutS,if_neg (by omega),if_neg (by rw [hs];omega),extract_of,extract_of,hs,Int.toNat_natCast,List.take_left,←List.length_append,List.take_length,List.drop_left]
 rfl
theorem numS_read (n x:Nat) (h1:1≤n) (h7:n≤7) (hx:x<256 ^ n) (r:List UInt8):numS ⟨(numB n x ++ r).toArray⟩ n=(x,⟨r.toArray⟩,0):=by
 have hc:=cutS_read (numB n x) r
 rw [numB_length] at hc
 rw [numS,if_pos ⟨by omega,by omega⟩,hc]
 simp [getN_numB n x hx]
theorem bytes_of (s:ByteArray):∃ l:List UInt8,s=⟨l.toArray⟩:=⟨s.data.toList,by simp⟩
theorem size_of (l:List UInt8):(⟨l.toArray⟩:ByteArray).size=l.length:=by simp [ByteArray.size]
def txtB (s:ByteArray):List UInt8:=numB 2 s.size ++ s.data.toList
def listB (l:List ByteArray):List UInt8:=numB 1 l.length ++ l.flatMap txtB
theorem txtB_length (s:ByteArray):(txtB s).length=2+s.size:=by
 unfold txtB;rw [List.length_append,numB_length];rfl
theorem Strs.cellAt {w:World} {base:Nat} {a:Option Addr} {len cap:Nat} {ts:List ByteArray} (h:Strs w base (.slice a len cap) ts) {i:Nat} (hi:i<ts.length):∃ b o,a=some ⟨b,o,none⟩∧w.cell? ⟨b,o+i,none⟩=some (.string (ts.getD i ⟨#[]⟩)):=by
 obtain ⟨a',cap',e,h⟩:=h
 cases e
 rcases h with h|⟨b,o,rfl,_,h⟩
 ·subst h;simp at hi
 ·exact ⟨b,o,rfl,h i hi⟩
theorem Strs.form {w:World} {base:Nat} {v:Value} {ts:List ByteArray} (h:Strs w base v ts):∃ a cap,v = .slice a ts.length cap:=by
 obtain ⟨a',cap',e,_⟩:=h
 exact ⟨a',cap',e⟩
theorem Strs.below {w w':World} {v:Value} {ts:List ByteArray} {B base:Nat} (h:Strs w base v ts) (hb:Below B w w') (hB:w.heap.size≤B):Strs w' base v ts:=by
 obtain ⟨a,cap,rfl,h⟩:=h
 refine ⟨a,cap,rfl,?_⟩
 rcases h with h|⟨b,o,rfl,hb0,h⟩
 ·exact .inl h
 ·refine .inr ⟨b,o,rfl,hb0,fun i hi=>?_⟩
  have hlt:=World.block_lt_of_cell? _ _ (h i hi)
  exact (hb.cell (p:=⟨b,o+i,none⟩) (Nat.lt_of_lt_of_le hlt hB)).trans (h i hi)
theorem flat_snoc (ts:List ByteArray) (k:Nat) (h:k<ts.length):(ts.take (k+1)).flatMap txtB=(ts.take k).flatMap txtB ++ txtB (ts.getD k ⟨#[]⟩):=by
 rw [List.take_succ_eq_append_getElem h,List.flatMap_append,List.flatMap_singleton,List.getD_eq_getElem?_getD,List.getElem?_eq_getElem h]
 rfl
theorem flat_length (ts:List ByteArray) (hs:∀ t∈ts,t.size≤100000):(ts.flatMap txtB).length≤100002*ts.length:=by
 induction ts with
 | nil=>simp
 | cons t ts ih=>
  rw [List.flatMap_cons,List.length_append,txtB_length,List.length_cons]
  have:=ih fun x hx=>hs x (List.mem_cons_of_mem _ hx)
  have:=hs t List.mem_cons_self
  omega
theorem info9:(Tryz.prog.info? 9).map (fun i=>(i.zero,i.size,i.bytes))=some (some (.string ⟨#[]⟩),1,16):=by kernel_rfl
theorem strs_own {w:World} {B:Nat} {v:Value} {ts:List ByteArray} (h:w.ownsRow B 9 1 v ts.length (ts.map Value.string)):Strs w B v ts:=by
 rcases h.2 with ⟨rfl,h0⟩|⟨g,cap,cur,rfl,_⟩
 ·have:ts=[]:=List.eq_nil_of_length_eq_zero h0
  subst this
  exact ⟨none,0,rfl,.inl rfl⟩
 ·refine ⟨some ⟨g,0,none⟩,cap,rfl,.inr ⟨g,0,rfl,(h.lt g rfl).1,fun i hi=>?_⟩⟩
  have:=h.cells rfl i (.string (ts.getD i ⟨#[]⟩)) (by simp [List.getElem?_map,List.getElem?_eq_getElem hi,List.getD_eq_getElem?_getD])
  rwa [add_none] at this
end Go.Proofs.YtajmeimjaapagaaGreatDoor.Oc
/- A part. -/
set_option linter.unusedVariables false
set_option linter.unusedSimpArgs false
namespace Go.Proofs.YtajmeimjaapagaaGreatDoor
open Go.RowKit Go.Deep
def inL (L:List (Int×Int)) (r:Int):Bool:=L.any fun s=>decide (s.1≤r) && decide (r≤s.2)
theorem inL_take_none {L:List (Int×Int)} {r:Int} (h:∀ j,j<L.length→¬ ((L.getD j (0,0)).1≤r∧r≤(L.getD j (0,0)).2)):inL L r=false:=by
 unfold inL
 rw [List.any_eq_false]
 intro s hs
 obtain ⟨i,hi,rfl⟩:=List.getElem_of_mem hs
 have:=h i hi
 simp only [List.getD_eq_getElem?_getD,List.getElem?_eq_getElem hi,Option.getD_some] at this
 simpa using this
theorem inL_at {L:List (Int×Int)} {r:Int} {j:Nat} (hj:j<L.length) (h1:(L.getD j (0,0)).1≤r) (h2:r≤(L.getD j (0,0)).2):inL L r=true:=by
 unfold inL
 rw [List.any_eq_true]
 refine ⟨L[j],List.getElem_mem hj,?_⟩
 simp only [List.getD_eq_getElem?_getD,List.getElem?_eq_getElem hj,Option.getD_some] at h1 h2
 simpa using ⟨h1,h2⟩
def Spans (w:World) (b:Nat) (L:List (Int×Int)):Prop:=
 L.length≤1000∧∃ c o cap,w.cell? ⟨b,0,none⟩=some (.slice (some ⟨c,o,none⟩) L.length cap) ∧
  ∀ i,i<L.length→w.cell? ⟨c,o+i*2,none⟩=some (.int .i32 (L.getD i (0,0)).1)∧w.cell? ⟨c,o+i*2+1,none⟩=some (.int .i32 (L.getD i (0,0)).2)
theorem Spans.below {w w':World} {b B:Nat} {L:List (Int×Int)} (h:Spans w b L) (hb:Below B w w') (hB:w.heap.size≤B):Spans w' b L:=by
 obtain ⟨hl,c,o,cap,hc,hs⟩:=h
 refine ⟨hl,c,o,cap,(hb.cell (Nat.lt_of_lt_of_le (World.block_lt_of_cell? _ _ hc) hB)).trans hc,fun i hi=>?_⟩
 obtain ⟨h1,h2⟩:=hs i hi
 exact ⟨(hb.cell (p:=⟨c,_,none⟩) (Nat.lt_of_lt_of_le (World.block_lt_of_cell? _ _ h1) hB)).trans h1,(hb.cell (p:=⟨c,_,none⟩) (Nat.lt_of_lt_of_le (World.block_lt_of_cell? _ _ h2) hB)).trans h2⟩
set_option maxRecDepth 100000 in
theorem sign_any (L:List (Int×Int)) (b:Nat) (r:Int) (w:World) (h:Spans w b L) :
 Calls Tryz.prog 276 #[.int .i32 r,.pointer (some ⟨b,0,none⟩)] w fun e w'=>e = .returned (.bool (inL L r))∧Below w.heap.size w w':=by
 obtain ⟨hl,c,o,cap,hc,hs⟩:=h
 have HS:=Lib.hid hs
 have HC:=Lib.hid hc
 clear hs
 go_enter Tryz.func276,Tryz.ntmps276
 go_wp2_with fail
 go_loopw [8] (fun i wr=>∃ k:Nat,k≤L.length∧i = .int .i64 k∧Below w.heap.size w wr∧∀ j,j<k→¬ ((L.getD j (0,0)).1≤r∧r≤(L.getD j (0,0)).2)) (fun i _=>L.length - (intOf i).toNat)
 case atStart=>exact ⟨0,Nat.zero_le _,rfl,Below.refl _ _,fun j hj=>by omega⟩
 case round=>
  obtain ⟨k,hk,rfl,hb,hno⟩:=hrel
  have HB:=Lib.hid hb
  have HN:=Lib.hid hno
  by_cases hlt:k<L.length
  ·obtain ⟨h1,h2⟩:=HS.out k hlt
   have g1:=(hb.cell (World.block_lt_of_cell? _ _ h1)).trans h1
   have g2:=(hb.cell (World.block_lt_of_cell? _ _ h2)).trans h2
   obtain ⟨x,hx⟩:∃ x,x=(L.getD k (0,0)).1:=⟨_,rfl⟩
   obtain ⟨y,hy⟩:∃ y,y=(L.getD k (0,0)).2:=⟨_,rfl⟩
   rw [←hx] at g1
   rw [←hy] at g2
   have HX:=Lib.hid hx
   have HY:=Lib.hid hy
   clear hb hno h1 h2 hx hy hc
   go_wp2_with fail
   ·go_ret
    have a1:x≤r:=by assumption
    have a2:r≤y:=by assumption
    rw [HX.out] at a1
    rw [HY.out] at a2
    exact ⟨by rw [inL_at hlt a1 a2];rfl,(HB.out.alloc HB.out.size _)⟩
   all_goals
    refine ⟨⟨k+1,by omega,by go_num,HB.out.alloc HB.out.size _,fun j hj=>?_⟩,by simp [intOf];omega⟩
    by_cases hjk:j=k
    ·subst hjk
     rw [←HX.out,←HY.out]
     omega
    ·exact HN.out j (by omega)
  ·obtain rfl:k=L.length:=by omega
   clear hb hno hc
   go_wp2_with fail
   go_ret
   exact ⟨by rw [inL_take_none HN.out];rfl,HB.out⟩
end Go.Proofs.YtajmeimjaapagaaGreatDoor
/- A part. -/
set_option linter.unusedVariables false
set_option linter.unusedSimpArgs false
namespace Go.Proofs.YtajmeimjaapagaaGreatDoor.Cr
open Go.RowKit Go.Deep
theorem run_index_arr {P:Program} (w:World) {t e:TypeId} {n:Nat} {d:TypeDesc} {cs:Array Value} (k:IntKind) {j:Nat} {v:Value} (h:P.underlying t=some (.array n e)) (he:P.underlying e=some d)
 (hd:(match d with | .struct _ | .array _ _=>true|_=>false)=false) (hs:(P.info? e).map (·.size)=some 1) (hj:j<n) (hv:cs[j]? = some v) :
 (Instr.index t (.agg cs) (.int k (j:Int))).run P w = .ok v w:=by
 cases hq:P.info? e with
 | none=>simp [hq] at hs
 | some i=>
  have hs1:i.size=1:=by simpa [hq] using hs
  have hagg:(isAgg e).run P w = .ok false w:=by
   unfold isAgg
   rw [Sem.run_bind,run_underlying he w]
   cases d<;>simp_all
  have hj0:(0:Int)≤(j:Int)∧(j:Int)<(n:Int):=by omega
  simp [Instr.index,run_underlying h,asIntOf,hj0,part,hagg,sizeOf,typeInfo,hq,hs1,hv,Sem.run_bind,go_sem]
  omega
theorem run_loadVar_part {P:Program} (w:World) (g off:Nat) (ty:TypeId) (cs:Array Value) (d:TypeDesc) (hc:∀ j v,cs[j]? = some v→w.cell? ⟨g,off+j,none⟩=some v)
 (hu:P.underlying ty=some d) (hd:(match d with | .struct _ | .array _ _=>true|_=>false)=true) (hi:(P.info? ty).map (·.size)=some cs.size) :
 (loadVar ty ⟨g,off,none⟩).run P w = .ok (.agg cs) w:=by
 have hl:(loadCells ⟨g,off,none⟩ cs.toList.length).run P w = .ok cs.toList.toArray w:=
  run_loadCells_list (P:=P) w ⟨g,off,none⟩ cs.toList (fun j v hv=>by
   rw [add_none]
   exact hc j v (by simpa using hv))
 cases hq:P.info? ty with
 | none=>simp [hq] at hi
 | some i=>
  have hs:i.size=cs.size:=by simpa [hq] using hi
  have hagg:(isAgg ty).run P w = .ok true w:=by
   unfold isAgg
   rw [Sem.run_bind,run_underlying hu w]
   cases d<;>simp_all
  simp only [Array.length_toList,Array.toArray_toList] at hl
  simp [loadVar,Sem.run_bind,hagg,sizeOf,typeInfo,hq,hs,hl]
theorem wp_load_part {P:Program} {o:Oper} {a:Act} {w:World} {K:Act→World→Prop} {Q:Exit→Act→World→Prop} (ty:TypeId) (x:Operand) (ho:o.op = .load ty x)
 (g off:Nat) (hx:a.eval x = .pointer (some ⟨g,off,none⟩)) (cs:Array Value) (d:TypeDesc) (hc:∀ j v,cs[j]? = some v→w.cell? ⟨g,off+j,none⟩=some v)
 (hu:P.underlying ty=some d) (hd:(match d with | .struct _ | .array _ _=>true|_=>false)=true) (hi:(P.info? ty).map (·.size)=some cs.size)
 (h:K (a.put o.dst (.agg cs)) w):o.wp P a w K Q:=by
 unfold Oper.wp execOp
 simp only [ho,hx,Instr.loadAt,Instr.sureAddr,Sem.run_bind,Sem.run_pure,Result.andThen_ok,run_loadVar_part w g off ty cs d hc hu hd hi]
 exact h
theorem wpList_load_part {P:Program} {ops:Array Oper} {rest:List Oper} {o:Oper} {a:Act} {w:World} {Q:Exit→Act→World→Prop} (hgd:o.guard=none) (ty:TypeId) (x:Operand) (ho:o.op = .load ty x)
 (g off:Nat) (hx:a.eval x = .pointer (some ⟨g,off,none⟩)) (cs:Array Value) (d:TypeDesc) (hc:∀ j v,cs[j]? = some v→w.cell? ⟨g,off+j,none⟩=some v)
 (hu:P.underlying ty=some d) (hd:(match d with | .struct _ | .array _ _=>true|_=>false)=true) (hi:(P.info? ty).map (·.size)=some cs.size)
 (h:wpList P ops Q rest (a.put o.dst (.agg cs)) w):wpList P ops Q (o :: rest) a w:=
 wpList_plain hgd fun _ hK=>wp_load_part ty x ho g off hx cs d hc hu hd hi (hK _ _ h)
end Go.Proofs.YtajmeimjaapagaaGreatDoor.Cr
/- A part. -/
set_option linter.unusedVariables false
set_option linter.unusedSimpArgs false
namespace Go.Proofs.YtajmeimjaapagaaGreatDoor.Cr
open Go.RowKit Go.Deep
theorem info_u8:(Tryz.prog.info? 5).map (·.size)=some 1:=by kernel_rfl
theorem run_part_u8 (w:World) (cs:Array Value) (i:Nat) (v:Value) (h:cs[i]? = some v):(part 5 cs i).run Tryz.prog w = .ok v w:=by
 have hu:Tryz.prog.underlying 5=some (.int .u8):=Tryz.underlying5
 have hagg:(isAgg 5).run Tryz.prog w = .ok false w:=by
  unfold isAgg
  rw [Sem.run_bind,run_underlying hu w]
  rfl
 simp [part,Sem.run_bind,hagg,h]
theorem size_u8 (w:World):(sizeOf 5).run Tryz.prog w = .ok 1 w:=by
 have h:=info_u8
 cases hq:Tryz.prog.info? 5 with
 | none=>simp [hq] at h
 | some i=>
  have hs:i.size=1:=by simpa [hq] using h
  simp [sizeOf,typeInfo,hq,hs]
theorem eq4 (w:World) (y0 y1 y2 y3 x0 x1 x2 x3:Int) :
 (Op.equalIn 10000 247 (.agg #[.int .u8 y0,.int .u8 y1,.int .u8 y2,.int .u8 y3]) (.agg #[.int .u8 x0,.int .u8 x1,.int .u8 x2,.int .u8 x3])).run Tryz.prog w = .ok (y0 == x0 && (y1 == x1 && (y2 == x2 && y3 == x3))) w:=by
 have hu:Tryz.prog.underlying 247=some (.array 4 5):=Tryz.underlying247
 have hu5:Tryz.prog.underlying 5=some (.int .u8):=Tryz.underlying5
 show (Op.equalIn (9999+1) _ _ _).run _ _=_
 have he:∀ a b:Int,(Op.equalIn 9999 5 (.int .u8 a) (.int .u8 b)).run Tryz.prog w = .ok (a == b) w:=fun a b=>run_equalIn_int w 9998 5 .u8 .u8 a b hu5
 rw [Op.equalIn]
 simp only [Sem.run_bind,run_underlying hu,Result.andThen_ok,size_u8]
 simp [Std.Legacy.Range.forIn_eq_forIn_range',Std.Legacy.Range.size,List.range',run_part_u8,he]
 by_cases h0:y0=x0<;>by_cases h1:y1=x1<;>by_cases h2:y2=x2<;>by_cases h3:y3=x3<;>simp [h0,h1,h2,h3]
end Go.Proofs.YtajmeimjaapagaaGreatDoor.Cr
/- A part. -/
set_option linter.unusedVariables false
set_option linter.unusedSimpArgs false
namespace Go.Proofs.YtajmeimjaapagaaGreatDoor.Oc
open Go.RowKit Go.Deep
def TxtsPost (w:World) (B:Nat) (l:List UInt8) (e:Ending) (w':World):Prop:=∃ v,e = .returned (.tuple #[v,.int .i64 0])∧Bys w' B v l∧Below B w w'
theorem bys_str {w:World} {B:Nat} {v:Value} {l:List UInt8} {t:ByteArray} (h:w.ownsRow B 5 1 v (l.length+t.size) (l.map by8 ++ Lib.strCells t)):Bys w B v (l ++ t.data.toList):=by
 unfold Bys
 rw [List.length_append,List.map_append]
 exact h
set_option maxHeartbeats 1000000 in
set_option maxRecDepth 100000 in
theorem appendTexts_ok (B:Nat) (v u:Value) (l:List UInt8) (ts:List ByteArray) (w:World) (hl:l.length≤1000000) (hn:ts.length≤1000) (hs:∀ t∈ts,t.size≤65535) (h:Bys w B v l) (hB':B≤w.heap.size) (hU:∀ w',Below B w w'→Strs w' 0 u ts) :
 Calls Tryz.prog 236 #[v,u] w (TxtsPost w B (l ++ ts.flatMap txtB)):=by
 obtain ⟨i0,hi,hz0,hz1,hz2⟩:=info_parts info5
 have H:=Lib.hid h
 have HU:=Lib.hid hU
 have HS:=Lib.hid hs
 obtain ⟨a,cap,rfl⟩:=(hU w (Below.refl _ _)).form
 clear h hU hs
 go_enter Tryz.func236,Tryz.ntmps236
 go_wp2_with fail
 go_loopw [0,10] (fun b i wr=>∃ k:Nat,k≤ts.length∧i = .int .i64 k∧Bys wr B b (l ++ (ts.take k).flatMap txtB)∧Below B w wr) (fun _ i _=>ts.length - (intOf i).toNat)
 case atStart=>exact ⟨0,Nat.zero_le _,rfl,by simpa using H.out,Below.refl _ _⟩
 case round=>
  obtain ⟨k,hk,rfl,hown,hbel⟩:=hrel
  have HOWN:=Lib.hid hown
  have HBEL:=Lib.hid hbel
  clear hown hbel
  by_cases hlt:k<ts.length
  ·obtain ⟨b,o,rfl,hck⟩:=(HU.out _ HBEL.out).cellAt hlt
   have hsz:=HS.out (ts.getD k ⟨#[]⟩) (by simp [List.getD_eq_getElem?_getD,List.getElem?_eq_getElem hlt])
   have hsn:=flat_snoc ts k hlt
   have hLl:(l ++ (ts.take k).flatMap txtB).length≤200000000:=by
    rw [List.length_append]
    have:=flat_length (ts.take k) fun t ht=>Nat.le_trans (HS.out t (List.mem_of_mem_take ht)) (by decide)
    have e:(ts.take k).length=k:=by rw [List.length_take];omega
    rw [e] at this
    omega
   obtain ⟨t,ht⟩:∃ t,t=ts.getD k ⟨#[]⟩:=⟨_,rfl⟩
   rw [←ht] at hck hsz hsn
   have HSN:=Lib.hid hsn
   obtain ⟨L,hL⟩:∃ L,L=l ++ (ts.take k).flatMap txtB:=⟨_,rfl⟩
   rw [←hL] at HOWN hLl
   have HL:=Lib.hid hL
   have HT:=Lib.hid ht
   clear ht hsn hL
   go_wp2_with fail
   refine (appendNum_any B _ L 2 t.size wr (by omega) (by omega) (by omega) HOWN.out (Nat.le_trans hB' HBEL.out.size)).mono ?_
   rintro e w2 ⟨v2,rfl,hown2,hbel2⟩
   obtain ⟨M,hM⟩:∃ M,M=L ++ numB 2 t.size:=⟨_,rfl⟩
   have hlen2:M.length≤200000002:=by rw [hM,List.length_append,numB_length];omega
   rw [←hM] at hown2
   have HM:=Lib.hid hM
   have HOWN2:=Lib.hid hown2
   have HBEL2:=Lib.hid (HBEL.out.trans hbel2)
   clear hown2 hbel2 hM
   go_wp2_with (at_builtin;go_must (refine Lib.wpList_append_own_string _ rfl _ _ 65 9 rfl B 5 i0 Tryz.underlying65 Tryz.underlying9 hi hz0 hz1 hz2 _ _ _ rfl HOWN2.out t rfl ?c3 ?c4 ?c5 ?_))
   case c3=>unfold maxLen;omega
   case c4=>omega
   case c5=>exact Nat.le_trans hB' HBEL2.out.size
   intro v' w1 hown' hgrow _
   have HOWN3:=Lib.hid (bys_str hown')
   have HBEL3:=Lib.hid (HBEL2.out.grown hgrow (Nat.le_trans hB' HBEL2.out.size) (fun k hk=>(HOWN2.out.lt k hk).1))
   clear hown' hgrow
   go_wp2_with fail
   go_roundw
   case rel=>exact ⟨k+1,by omega,by go_num,by rw [HSN.out,txtB,←List.append_assoc,←List.append_assoc,←HL.out,←HM.out];exact HOWN3.out,HBEL3.out⟩
   case measure=>simp [intOf];omega
  ·obtain rfl:k=ts.length:=by omega
   go_wp2_with fail
   go_ret2
   refine ⟨_,rfl,?_,HBEL.out⟩
   have:=HOWN.out
   rwa [List.take_of_length_le (Nat.le_refl _)] at this
theorem Strs.all {w:World} {u:Value} {ts:List ByteArray} (h:Strs w 0 u ts):∀ w',Below w.heap.size w w'→Strs w' 0 u ts:=fun _ hb=>h.below hb (Nat.le_refl _)
theorem textW_ok (u:Value) (ts:List ByteArray) (w:World) (hn:ts.length≤1000) (hs:∀ t∈ts,t.size≤65535) (hu:Strs w 0 u ts) :
 Calls Tryz.prog 204 #[u] w fun e w'=>e = .returned (.tuple #[.string ⟨(ts.flatMap txtB).toArray⟩,.int .i64 0])∧Below w.heap.size w w':=by
 have HU:=Lib.hid hu
 have HS:=Lib.hid hs
 clear hu hs
 go_enter Tryz.func204,Tryz.ntmps204
 go_wp2_with fail
 refine (appendTexts_ok w.heap.size (.slice none 0 0) u [] ts w (by simp) hn HS.out (World.ownsRow_nil _ _ _ _) (Nat.le_refl _) HU.out.all).mono ?_
 rintro e w1 ⟨v,rfl,hv,hb⟩
 rw [List.nil_append] at hv
 have hconv:=bys_string hv
 have HB:=Lib.hid hb
 clear hb hv
 go_wp2_with fail
 go_ret2
 exact ⟨rfl,HB.out⟩
theorem listW_ok (u:Value) (ts:List ByteArray) (w:World) (hn:ts.length≤255) (hs:∀ t∈ts,t.size≤65535) (hu:Strs w 0 u ts) :
 Calls Tryz.prog 205 #[u] w fun e w'=>e = .returned (.tuple #[.string ⟨(listB ts).toArray⟩,.int .i64 0])∧Below w.heap.size w w':=by
 have HU:=Lib.hid hu
 have HS:=Lib.hid hs
 obtain ⟨a,cap,rfl⟩:=hu.form
 clear hu hs
 go_enter Tryz.func205,Tryz.ntmps205
 go_wp2_with fail
 refine (appendNum_any w.heap.size (.slice none 0 0) [] 1 ts.length w (by omega) (by omega) (by simp) (World.ownsRow_nil _ _ _ _) (Nat.le_refl _)).mono ?_
 rintro e w1 ⟨v,rfl,hv,hb⟩
 rw [List.nil_append] at hv
 have HV:=Lib.hid hv
 have HB:=Lib.hid hb
 clear hb hv
 go_wp2_with fail
 refine (appendTexts_ok w.heap.size v _ (numB 1 ts.length) ts w1 (by rw [numB_length];omega) (by omega) HS.out HV.out HB.out.size (fun w' hb=>HU.out.all w' (HB.out.trans hb))).mono ?_
 rintro e w2 ⟨v2,rfl,hv,hb⟩
 have hconv:=bys_string hv
 rw [show numB 1 ts.length ++ ts.flatMap txtB=listB ts from rfl] at hconv
 have HB2:=Lib.hid (HB.out.trans hb)
 clear hb hv
 go_wp2_with fail
 go_ret2
 exact ⟨rfl,HB2.out⟩
theorem textS_read (t:ByteArray) (r:List UInt8) (most:Int) (h:(t.size:Int)≤most) (h2:t.size≤65535):textS ⟨(txtB t ++ r).toArray⟩ most=(t,⟨r.toArray⟩,0):=by
 have hn:=numS_read 2 t.size (by omega) (by omega) (by omega) (t.data.toList ++ r)
 rw [show ((2:Nat):Int)=2 from rfl] at hn
 rw [textS,txtB,List.append_assoc,hn]
 have hc:=cutS_read t.data.toList r
 rw [show t.data.toList.length=t.size from rfl] at hc
 simp only [if_true]
 rw [if_neg (by omega),hc]
theorem textsS_read (most:Int):∀ (ts:List ByteArray) (acc:List ByteArray) (r:List UInt8),(∀ t∈ts,(t.size:Int)≤most∧t.size≤65535)→textsS most ts.length ⟨(ts.flatMap txtB ++ r).toArray⟩ acc=(acc ++ ts,⟨r.toArray⟩,0):=by
 intro ts
 induction ts with
 | nil=>intro acc r _;simp [textsS]
 | cons t ts ih=>
  intro acc r h
  rw [List.flatMap_cons,List.append_assoc,List.length_cons,textsS,textS_read t _ most (h t List.mem_cons_self).1 (h t List.mem_cons_self).2]
  simp only [if_true]
  rw [ih _ _ fun x hx=>h x (List.mem_cons_of_mem _ hx)]
  simp
theorem listS_read (ts:List ByteArray) (r:List UInt8) (many most:Int) (hm:(ts.length:Int)≤many) (hl:ts.length≤255) (h:∀ t∈ts,(t.size:Int)≤most∧t.size≤65535):listS ⟨(listB ts ++ r).toArray⟩ many most=(ts,⟨r.toArray⟩,0):=by
 have hn:=numS_read 1 ts.length (by omega) (by omega) (by omega) (ts.flatMap txtB ++ r)
 rw [show ((1:Nat):Int)=1 from rfl] at hn
 rw [listS,listB,List.append_assoc,hn]
 simp only [if_true]
 rw [if_neg (by omega),textsS_read most ts [] r h]
 rfl
end Go.Proofs.YtajmeimjaapagaaGreatDoor.Oc
/- A part. -/
set_option linter.unusedVariables false
set_option linter.unusedSimpArgs false
namespace Go.Proofs.YtajmeimjaapagaaGreatDoor
open Go.RowKit Go.Deep
def okL (L:List (Int×Int)) (n:Nat) (s:ByteArray):Bool:=decide (1≤s.size) && decide (s.size≤n) && s.data.toList.all fun c=>inL L c.toNat
theorem okL_iff {L:List (Int×Int)} {n:Nat} {s:ByteArray}:okL L n s=true↔1≤s.size∧s.size≤n∧∀ i (h:i<s.size),inL L (s[i]'h).toNat=true:=by
 unfold okL
 simp only [Bool.and_eq_true,decide_eq_true_eq,List.all_eq_true,and_assoc]
 refine and_congr_right fun _=>and_congr_right fun _=>⟨fun h i hi=>h _ (by simp [ByteArray.getElem_eq_getElem_data]),fun h c hc=>?_⟩
 obtain ⟨i,hi,rfl⟩:=List.getElem_of_mem hc
 exact h i (by simpa using hi)
theorem okL_true {L:List (Int×Int)} {n:Nat} {s:ByteArray} (h1:1≤s.size) (h2:s.size≤n) (h:∀ i (h:i<s.size),inL L (s[i]'h).toNat=true):okL L n s=true:=okL_iff.2 ⟨h1,h2,h⟩
theorem okL_none {L:List (Int×Int)} {n:Nat} {s:ByteArray} (h:¬ 1≤s.size):okL L n s=false:=by
 rw [←Bool.not_eq_true,okL_iff];exact fun k=>h k.1
theorem okL_long {L:List (Int×Int)} {n:Nat} {s:ByteArray} (h:¬ s.size≤n):okL L n s=false:=by
 rw [←Bool.not_eq_true,okL_iff];exact fun k=>h k.2.1
theorem okL_at {L:List (Int×Int)} {n:Nat} {s:ByteArray} {i:Nat} (hi:i<s.size) (h:inL L (s[i]'hi).toNat=false):okL L n s=false:=by
 rw [←Bool.not_eq_true,okL_iff];intro k;rw [k.2.2 i hi] at h;cases h
def IsMay (L:List (Int×Int)) (w:World) (e:Ending) (w':World):Prop:=
 ∃ b,e = .returned (.func (.func 276) #[] #[.pointer (some ⟨b,0,none⟩)])∧Spans w' b L∧Below w.heap.size w w'
theorem signs_any (L:List (Int×Int)) (c o cap:Nat) (w:World) (hl:L.length≤1000)
 (hs:∀ i,i<L.length→w.cell? ⟨c,o+i*2,none⟩=some (.int .i32 (L.getD i (0,0)).1)∧w.cell? ⟨c,o+i*2+1,none⟩=some (.int .i32 (L.getD i (0,0)).2)) :
 Calls Tryz.prog 269 #[.slice (some ⟨c,o,none⟩) L.length cap] w (IsMay L w):=by
 have hmf:∀ (fn:Fn) (first cap:Array Value) (w:World),(Instr.makeFunc fn first cap).run Tryz.prog w = .ok (.func fn first cap) w:=fun _ _ _ _=>rfl
 have HS:=Lib.hid hs
 clear hs
 go_enter Tryz.func269,Tryz.ntmps269
 go_wp2_with fail
 go_ret
 refine ⟨w.heap.size,rfl,⟨hl,c,o,cap,by simp [go_sem],fun i hi=>?_⟩,(Below.refl _ _).alloc (Nat.le_refl _) _⟩
 obtain ⟨h1,h2⟩:=HS.out i hi
 have hb:=(Below.refl w.heap.size w).alloc (Nat.le_refl _) (.cells #[.slice (some ⟨c,o,none⟩) L.length cap] 332)
 exact ⟨(hb.cell (World.block_lt_of_cell? _ _ h1)).trans h1,(hb.cell (World.block_lt_of_cell? _ _ h2)).trans h2⟩
def plainL:List (Int×Int):=[(97,122),(48,57),(45,45)]
def keyL:List (Int×Int):=[(33,126)]
theorem plainSigns_any (w:World):Calls Tryz.prog 267 #[] w (IsMay plainL w):=by
 go_enter Tryz.func267,Tryz.ntmps267
 go_wp2_with fail
 refine (signs_any plainL w.heap.size 0 3 _ (by decide) (fun i hi=>by
  match i,hi with
  | 0,_=>simp [plainL,go_sem]
  | 1,_=>simp [plainL,go_sem]
  | 2,_=>simp [plainL,go_sem])).mono ?_
 rintro e w' ⟨b,rfl,hs,hb⟩
 have HS:=Lib.hid hs
 have HB:=Lib.hid hb
 clear hs hb
 go_wp2_with fail
 go_ret
 exact ⟨b,rfl,HS.out,((Below.refl w.heap.size w).alloc (Nat.le_refl _) _).trans (HB.out.mono (by simp [go_sem]))⟩
theorem next_sign {L:List (Int×Int)} (hL:∀ r,inL L r=true→r<128) (s:ByteArray) (pos:Nat) (h:pos<s.size) :
 ∃ (c:Int) (d:Nat),0≤c∧c≤2147483647∧(inL L c=true→d=1∧inL L (s[pos]'h).toNat=true)∧(inL L c=false→inL L (s[pos]'h).toNat=false) ∧
  ((Utf8.decode s pos).1:Int)=c∧(Utf8.decode s pos).2=d:=by
 refine ⟨_,_,Int.natCast_nonneg _,by have:=decode_le s pos;omega,?_,?_,rfl,rfl⟩
 ·intro hc
  by_cases ha:(s[pos]'h).toNat<128
  ·rw [decode_ascii s pos h ha] at hc ⊢
   exact ⟨rfl,hc⟩
  ·have:=(decode_high s pos h (by omega)).1
   have:=hL _ hc
   omega
 ·intro hc
  by_cases ha:(s[pos]'h).toNat<128
  ·rw [decode_ascii s pos h ha] at hc
   exact hc
  ·rw [←Bool.not_eq_true]
   intro hk
   have:=hL _ hk
   omega
theorem iter_new (w:World) (s:ByteArray):(w.iter s 0).heap[w.heap.size]? = some (.stringIter s 0):=World.iter_heap w s 0
theorem empty_of {s:ByteArray} (h:¬ 1≤s.size):s.toList.isEmpty=true:=by
 rw [ByteArray.toList_eq,List.isEmpty_iff,←List.length_eq_zero_iff]
 have:s.data.toList.length=s.size:=rfl
 omega
theorem some_of {s:ByteArray} (h:1≤s.size):s.toList.isEmpty=false:=by
 rw [ByteArray.toList_eq,List.isEmpty_eq_false_iff,←List.length_pos_iff]
 exact h
set_option maxRecDepth 100000 in
theorem made_any (L:List (Int×Int)) (hL:∀ r,inL L r=true→r<128) (b n:Nat) (s:ByteArray) (w:World) (h:Spans w b L) (hs:s.size≤maxLen) (hn:n≤1000) :
 Calls Tryz.prog 266 #[.string s,.int .i64 n,.func (.func 276) #[] #[.pointer (some ⟨b,0,none⟩)]] w fun e w'=>e = .returned (.bool (okL L n s))∧Below w.heap.size w w':=by
 unfold maxLen at hs
 have HL:=Lib.hid hL
 have HP:=Lib.hid h
 have HI:=Lib.hid (iter_new w s)
 have HB0:Hid (Below w.heap.size w (w.iter s 0)):=Lib.hid ((Below.refl _ _).alloc (Nat.le_refl _) _)
 clear hL h
 by_cases h1:1≤s.size
 ·have he:=some_of h1
  by_cases h2:s.size≤n
  ·have hd:decide (n<s.size)=false:=by simpa using h2
   go_enter Tryz.func266,Tryz.ntmps266
   go_wp2_with fail
   go_loopw [6] (fun x wr=>∃ pos:Nat,pos≤s.size∧wr.heap[w.heap.size]? = some (.stringIter s pos)∧Below w.heap.size w wr∧∀ i (h:i<s.size),i<pos→inL L (s[i]'h).toNat=true) (fun _ wr=>s.size - wr.iterPos w.heap.size)
   case atStart=>exact ⟨0,Nat.zero_le _,HI.out,HB0.out,fun i h hi=>by omega⟩
   case round=>
    obtain ⟨pos,hpos,hit,hb,hok⟩:=hrel
    have HB:=Lib.hid hb
    have HOK:=Lib.hid hok
    have HIT:=Lib.hid hit
    clear hb hok
    by_cases hlt:pos<s.size
    ·obtain ⟨c,d,hc0,hc1,hyes,hno,hce,hde⟩:=next_sign HL.out s pos hlt
     have hnx:=fun ty=>Lib.run_next_any_at (P:=Tryz.prog) wr w.heap.size s pos ty hit hlt
     rw [hce,hde] at hnx
     have HY:=Lib.hid hyes
     have HN:=Lib.hid hno
     clear hyes hno hce hde hit
     have HB2:=Lib.hid (Lib.below_iterAt HB.out (Nat.le_refl _) s (pos+d))
     have HP2:=Lib.hid (HP.out.below HB2.out (Nat.le_refl _))
     have HI2:=Lib.hid (Lib.iterAt_heap wr w.heap.size s pos (pos+d) HIT.out)
     obtain ⟨w2,hw2⟩:∃ w2,w2=wr.iterAt w.heap.size s (pos+d):=⟨_,rfl⟩
     rw [←hw2] at hnx HB2 HP2 HI2
     clear hw2
     go_wp2_with fail
     refine (sign_any L b c _ HP2.out).mono ?_
     rintro e w' ⟨rfl,hb⟩
     have HB3:=Lib.hid (HB2.out.trans (hb.mono HB2.out.size))
     have HI3:Hid (w'.heap[w.heap.size]? = some (.stringIter s (pos+d))):=Lib.hid ((hb.block _ (Array.getElem?_eq_some_iff.1 HI2.out).1).trans HI2.out)
     clear hb
     by_cases hin:inL L c=true
     ·have HIN:=Lib.hid hin
      rw [hin]
      clear hin
      go_wp2_with fail
      obtain ⟨rfl,hk⟩:=HY.out HIN.out
      refine ⟨⟨pos+1,by omega,HI3.out,HB3.out,fun i h hi=>?_⟩,?_⟩
      ·by_cases hip:i=pos
       ·subst hip
        exact hk
       ·exact HOK.out i h (by omega)
      ·have e1:wr.iterPos w.heap.size=pos:=iterPos_of HIT.out
       have e2:w'.iterPos w.heap.size=pos+1:=iterPos_of HI3.out
       rw [e1,e2]
       omega
     ·rw [Bool.not_eq_true] at hin
      have HIN:=Lib.hid hin
      rw [hin]
      clear hin
      go_wp2_with fail
      go_ret
      exact ⟨by rw [okL_at hlt (HN.out HIN.out)];rfl,HB3.out⟩
    ·have hnx:=fun ty=>Lib.run_next_end_at (P:=Tryz.prog) wr w.heap.size s pos ty hit hlt
     clear hit
     go_wp2_with fail
     go_ret
     exact ⟨by rw [okL_true h1 h2 (fun i h=>HOK.out i h (by omega))];rfl,HB.out⟩
  ·go_enter Tryz.func266,Tryz.ntmps266
   go_wp2_with fail
   go_ret
   exact ⟨by rw [okL_long h2];rfl,Below.refl _ _⟩
 ·have he:=empty_of h1
  go_enter Tryz.func266,Tryz.ntmps266
  go_wp2_with fail
  go_ret
  exact ⟨by rw [okL_none h1];rfl,Below.refl _ _⟩
theorem plainL_lt (r:Int) (h:inL plainL r=true):r<128:=by
 simp [inL,plainL] at h
 omega
theorem keyL_lt (r:Int) (h:inL keyL r=true):r<128:=by
 simp [inL,keyL] at h
 omega
def plainB (s:ByteArray):Bool:=okL plainL 16 s
def groupB (s:ByteArray):Bool:=okL plainL 8 s
def keyB (s:ByteArray):Bool:=okL keyL 16 s
theorem plain_any (s:ByteArray) (w:World) (hs:s.size≤maxLen):Calls Tryz.prog 252 #[.string s] w fun e w'=>e = .returned (.bool (plainB s))∧Below w.heap.size w w':=by
 go_enter Tryz.func252,Tryz.ntmps252
 go_wp2_with fail
 refine (plainSigns_any _).mono ?_
 rintro e w1 ⟨b,rfl,hp,hb⟩
 have HP:=Lib.hid hp
 have HB:=Lib.hid hb
 clear hp hb
 go_wp2_with fail
 refine (made_any plainL plainL_lt b 16 s _ HP.out hs (by omega)).mono ?_
 rintro e w2 ⟨rfl,hb⟩
 have HB2:=Lib.hid (HB.out.trans (hb.mono HB.out.size))
 clear hb
 go_wp2_with fail
 go_ret
 exact ⟨rfl,HB2.out⟩
theorem group_any (s:ByteArray) (w:World) (hs:s.size≤maxLen):Calls Tryz.prog 265 #[.string s] w fun e w'=>e = .returned (.bool (groupB s))∧Below w.heap.size w w':=by
 go_enter Tryz.func265,Tryz.ntmps265
 go_wp2_with fail
 refine (plainSigns_any _).mono ?_
 rintro e w1 ⟨b,rfl,hp,hb⟩
 have HP:=Lib.hid hp
 have HB:=Lib.hid hb
 clear hp hb
 go_wp2_with fail
 refine (made_any plainL plainL_lt b 8 s _ HP.out hs (by omega)).mono ?_
 rintro e w2 ⟨rfl,hb⟩
 have HB2:=Lib.hid (HB.out.trans (hb.mono HB.out.size))
 clear hb
 go_wp2_with fail
 go_ret
 exact ⟨rfl,HB2.out⟩
theorem key_any (s:ByteArray) (w:World) (hs:s.size≤maxLen):Calls Tryz.prog 254 #[.string s] w fun e w'=>e = .returned (.bool (keyB s))∧Below w.heap.size w w':=by
 go_enter Tryz.func254,Tryz.ntmps254
 go_wp2_with fail
 refine (signs_any keyL w.heap.size 0 1 _ (by decide) (fun i hi=>by
  match i,hi with
  | 0,_=>simp [keyL,go_sem])).mono ?_
 rintro e w1 ⟨b,rfl,hp,hb⟩
 have HP:=Lib.hid hp
 have HB:=Lib.hid (((Below.refl w.heap.size w).alloc (Nat.le_refl _) _).trans (hb.mono (by simp [go_sem])))
 clear hp hb
 go_wp2_with fail
 refine (made_any keyL keyL_lt b 16 s _ HP.out hs (by omega)).mono ?_
 rintro e w2 ⟨rfl,hb⟩
 have HB2:=Lib.hid (HB.out.trans (hb.mono HB.out.size))
 clear hb
 go_wp2_with fail
 go_ret
 exact ⟨rfl,HB2.out⟩
def hasB (s h:ByteArray):Bool:=decide (h.size≤s.size) && ((s.extract 0 h.size).toList == h.toList)
theorem has_short {s h:ByteArray} (k:¬ h.size≤s.size):hasB s h=false:=by unfold hasB;simp [k]
theorem has_long {s h:ByteArray} (k:h.size≤s.size):hasB s h=((s.extract 0 h.size).toList == h.toList):=by unfold hasB;simp [k]
theorem has_le {s h:ByteArray} (k:hasB s h=true):h.size≤s.size:=by
 unfold hasB at k
 simp only [Bool.and_eq_true,decide_eq_true_eq] at k
 exact k.1
set_option maxRecDepth 100000 in
theorem hasPrefix_any (s h:ByteArray) (w:World) (hs:s.size≤maxLen) (hh:h.size≤maxLen):Calls Tryz.prog 198 #[.string s,.string h] w fun e w'=>e = .returned (.bool (hasB s h))∧w=w':=by
 unfold maxLen at hs hh
 by_cases k:h.size≤s.size
 ·go_enter Tryz.func198,Tryz.ntmps198
  go_wp2_with fail
  go_ret
  exact ⟨by rw [has_long k];rfl,rfl⟩
 ·go_enter Tryz.func198,Tryz.ntmps198
  go_wp2_with fail
  go_ret
  exact ⟨by rw [has_short k];rfl,rfl⟩
theorem cutLite_any (s h:ByteArray) (x:Bool) (w:World) (hs:s.size≤maxLen) (hh:h.size≤maxLen) (hx:hasB s h=x) :
 Calls Tryz.prog 216 #[.string s,.string h] w fun e w'=>e = .returned (.tuple #[.string (if x then s.extract h.size s.size else s),.bool x])∧w=w':=by
 have HX:=Lib.hid hx
 have hle:x=true→h.size≤s.size:=fun e=>has_le (hx.trans e)
 have hs':=hs
 have hh':=hh
 unfold maxLen at hs' hh'
 clear hx
 cases x
 ·clear hle
  go_enter Tryz.func216,Tryz.ntmps216
  go_wp2_with fail
  refine (hasPrefix_any s h _ hs hh).mono ?_
  rintro e w1 ⟨rfl,rfl⟩
  rw [HX.out]
  go_wp2_with fail
  go_ret2
  exact ⟨rfl,rfl⟩
 ·have hle:=hle rfl
  go_enter Tryz.func216,Tryz.ntmps216
  go_wp2_with fail
  refine (hasPrefix_any s h _ hs hh).mono ?_
  rintro e w1 ⟨rfl,rfl⟩
  rw [HX.out]
  go_wp2_with fail
  go_ret2
  exact ⟨rfl,rfl⟩
theorem ncut_any (s h:ByteArray) (x:Bool) (w:World) (hs:s.size≤maxLen) (hh:h.size≤maxLen) (hx:hasB s h=x) :
 Calls Tryz.prog 192 #[.string s,.string h] w fun e w'=>e = .returned (.tuple #[.string (if x then s.extract h.size s.size else s),.bool x])∧w=w':=by
 have HX:=Lib.hid hx
 clear hx
 obtain ⟨t,ht⟩:∃ t,t=if x then s.extract h.size s.size else s:=⟨_,rfl⟩
 rw [←ht]
 have HT:=Lib.hid ht
 clear ht
 go_enter Tryz.func192,Tryz.ntmps192
 go_wp2_with fail
 refine (cutLite_any s h x _ hs hh HX.out).mono ?_
 rintro e w1 ⟨rfl,rfl⟩
 rw [←HT.out]
 go_wp2_with fail
 go_ret2
 exact ⟨rfl,rfl⟩
abbrev retryH:ByteArray:=⟨#[37,114,101,116,114,121,37]⟩
abbrev deadH:ByteArray:=⟨#[37,100,101,97,100,37]⟩
def ownB (s h:ByteArray):Bool:=hasB s h && groupB (s.extract h.size s.size)
def ofB (s:ByteArray):ByteArray:=if ownB s retryH then s.extract 7 s.size else if ownB s deadH then s.extract 6 s.size else ⟨#[]⟩
def isOwn (s:ByteArray):Bool:=ownB s retryH || ownB s deadH
theorem extract_le (s:ByteArray) (k:Nat):(s.extract k s.size).size≤s.size:=by
 rw [ByteArray.size_extract];omega
set_option maxRecDepth 100000 in
theorem of_any (s:ByteArray) (w:World) (hs:s.size≤maxLen):Calls Tryz.prog 251 #[.string s] w fun e w'=>e = .returned (.tuple #[.string (ofB s),.bool (isOwn s)])∧Below w.heap.size w w':=by
 have i0:∀ w,(Instr.index 319 (.agg #[.string retryH,.string deadH]) (.int .i64 0)).run Tryz.prog w = .ok (.string retryH) w:=fun _=>by kernel_rfl
 have i1:∀ w,(Instr.index 319 (.agg #[.string retryH,.string deadH]) (.int .i64 1)).run Tryz.prog w = .ok (.string deadH) w:=fun _=>by kernel_rfl
 go_enter Tryz.func251,Tryz.ntmps251
 go_wp2_with fail
 go_loopw [9] (fun i wr=>Below w.heap.size w wr∧(i = .int .i64 0∨(i = .int .i64 1∧ownB s retryH=false)∨(i = .int .i64 2∧ownB s retryH=false∧ownB s deadH=false))) (fun i _=>2 - (intOf i).toNat)
 case atStart=>exact ⟨Below.refl _ _,.inl rfl⟩
 case round=>
  obtain ⟨hb,hrel⟩:=hrel
  have HB:=Lib.hid hb
  clear hb
  rcases hrel with rfl|⟨rfl,hr⟩|⟨rfl,hr,hd⟩
  ·skip
   cases hx:hasB s retryH
   ·have HX:=Lib.hid hx
    have HN:Hid (ownB s retryH=false):=Lib.hid (by unfold ownB;rw [hx];rfl)
    clear hx
    go_wp2_with fail
    refine (ncut_any s retryH false _ hs (by decide) HX.out).mono ?_
    rintro e w1 ⟨rfl,rfl⟩
    go_wp2_with fail
    exact ⟨⟨HB.out,.inr (.inl ⟨rfl,HN.out⟩)⟩,by simp [intOf]⟩
   ·have HX:=Lib.hid hx
    obtain ⟨t,ht⟩:∃ t,t=s.extract 7 s.size:=⟨_,rfl⟩
    have htl:t.size≤maxLen:=by rw [ht];exact Nat.le_trans (extract_le s 7) hs
    have HE:Hid (ownB s retryH=groupB t):=Lib.hid (by unfold ownB;rw [hx,ht];rfl)
    have HT:=Lib.hid ht
    clear hx ht
    go_wp2_with fail
    refine (ncut_any s retryH true _ hs (by decide) HX.out).mono ?_
    rintro e w1 ⟨rfl,rfl⟩
    rw [if_pos rfl,show (retryH).size=7 from rfl,←HT.out]
    go_wp2_with fail
    refine (group_any t _ htl).mono ?_
    rintro e w2 ⟨rfl,hb⟩
    have HB2:=Lib.hid (HB.out.trans (hb.mono HB.out.size))
    clear hb
    cases hg:groupB t
    ·have HN:Hid (ownB s retryH=false):=Lib.hid (HE.out.trans hg)
     clear hg
     go_wp2_with fail
     exact ⟨⟨HB2.out,.inr (.inl ⟨rfl,HN.out⟩)⟩,by simp [intOf]⟩
    ·have HN:Hid (ownB s retryH=true):=Lib.hid (HE.out.trans hg)
     clear hg
     go_wp2_with fail
     go_ret2
     exact ⟨by rw [show ofB s=t from by unfold ofB;rw [if_pos HN.out,HT.out],show isOwn s=true from by unfold isOwn;rw [HN.out];rfl];rfl,HB2.out⟩
  ·have HR:=Lib.hid hr
   clear hr
   cases hx:hasB s deadH
   ·have HX:=Lib.hid hx
    have HN:Hid (ownB s deadH=false):=Lib.hid (by unfold ownB;rw [hx];rfl)
    clear hx
    go_wp2_with fail
    refine (ncut_any s deadH false _ hs (by decide) HX.out).mono ?_
    rintro e w1 ⟨rfl,rfl⟩
    go_wp2_with fail
    exact ⟨⟨HB.out,.inr (.inr ⟨rfl,HR.out,HN.out⟩)⟩,by simp [intOf]⟩
   ·have HX:=Lib.hid hx
    obtain ⟨t,ht⟩:∃ t,t=s.extract 6 s.size:=⟨_,rfl⟩
    have htl:t.size≤maxLen:=by rw [ht];exact Nat.le_trans (extract_le s 6) hs
    have HE:Hid (ownB s deadH=groupB t):=Lib.hid (by unfold ownB;rw [hx,ht];rfl)
    have HT:=Lib.hid ht
    clear hx ht
    go_wp2_with fail
    refine (ncut_any s deadH true _ hs (by decide) HX.out).mono ?_
    rintro e w1 ⟨rfl,rfl⟩
    rw [if_pos rfl,show (deadH).size=6 from rfl,←HT.out]
    go_wp2_with fail
    refine (group_any t _ htl).mono ?_
    rintro e w2 ⟨rfl,hb⟩
    have HB2:=Lib.hid (HB.out.trans (hb.mono HB.out.size))
    clear hb
    cases hg:groupB t
    ·have HN:Hid (ownB s deadH=false):=Lib.hid (HE.out.trans hg)
     clear hg
     go_wp2_with fail
     exact ⟨⟨HB2.out,.inr (.inr ⟨rfl,HR.out,HN.out⟩)⟩,by simp [intOf]⟩
    ·have HN:Hid (ownB s deadH=true):=Lib.hid (HE.out.trans hg)
     clear hg
     go_wp2_with fail
     go_ret2
     exact ⟨by rw [show ofB s=t from by unfold ofB;rw [if_neg (by rw [HR.out];decide),if_pos HN.out,HT.out],show isOwn s=true from by unfold isOwn;rw [HN.out,Bool.or_true]];rfl,HB2.out⟩
  ·have HF:Hid (ofB s=⟨#[]⟩):=Lib.hid (by unfold ofB;rw [hr,hd];rfl)
   have HI:Hid (isOwn s=false):=Lib.hid (by unfold isOwn;rw [hr,hd];rfl)
   clear hr hd
   go_wp2_with fail
   go_ret2
   exact ⟨by rw [HF.out,HI.out];rfl,HB.out⟩
def topicB (s:ByteArray):Bool:=isOwn s || plainB s
def tagB (s:ByteArray):Bool:=s.toList.isEmpty || plainB s
theorem topic_any (s:ByteArray) (w:World) (hs:s.size≤maxLen):Calls Tryz.prog 233 #[.string s] w fun e w'=>e = .returned (.bool (topicB s))∧Below w.heap.size w w':=by
 obtain ⟨g,hg⟩:∃ g,g=ofB s:=⟨_,rfl⟩
 have HG:=Lib.hid hg
 clear hg
 cases ho:isOwn s
 ·have HO:=Lib.hid ho
  have HT:Hid (topicB s=plainB s):=Lib.hid (by unfold topicB;rw [ho];rfl)
  clear ho
  go_enter Tryz.func233,Tryz.ntmps233
  go_wp2_with fail
  refine (of_any s _ hs).mono ?_
  rintro e w1 ⟨rfl,hb⟩
  rw [HO.out,←HG.out]
  have HB:=Lib.hid hb
  clear hb
  go_wp2_with fail
  refine (plain_any s _ hs).mono ?_
  rintro e w2 ⟨rfl,hb⟩
  have HB2:=Lib.hid (HB.out.trans (hb.mono HB.out.size))
  rw [←HT.out]
  clear hb
  go_wp2_with fail
  go_ret
  exact ⟨rfl,HB2.out⟩
 ·have HO:=Lib.hid ho
  have HT:Hid (topicB s=true):=Lib.hid (by unfold topicB;rw [ho];rfl)
  clear ho
  go_enter Tryz.func233,Tryz.ntmps233
  go_wp2_with fail
  refine (of_any s _ hs).mono ?_
  rintro e w1 ⟨rfl,hb⟩
  rw [HO.out,←HG.out]
  have HB:=Lib.hid hb
  clear hb
  go_wp2_with fail
  go_ret
  exact ⟨by rw [HT.out];rfl,HB.out⟩
theorem tag_any (s:ByteArray) (w:World) (hs:s.size≤maxLen):Calls Tryz.prog 234 #[.string s] w fun e w'=>e = .returned (.bool (tagB s))∧Below w.heap.size w w':=by
 by_cases h1:1≤s.size
 ·have he:=some_of h1
  have HT:Hid (tagB s=plainB s):=Lib.hid (by unfold tagB;rw [he];rfl)
  go_enter Tryz.func234,Tryz.ntmps234
  go_wp2_with fail
  refine (plain_any s _ hs).mono ?_
  rintro e w2 ⟨rfl,hb⟩
  rw [←HT.out]
  have HB:=Lib.hid hb
  clear hb
  go_wp2_with fail
  go_ret
  exact ⟨rfl,HB.out⟩
 ·have he:=empty_of h1
  have HT:Hid (tagB s=true):=Lib.hid (by unfold tagB;rw [he];rfl)
  go_enter Tryz.func234,Tryz.ntmps234
  go_wp2_with fail
  go_ret
  exact ⟨by rw [HT.out];rfl,Below.refl _ _⟩
theorem ext0 (s:ByteArray) (n:Nat):(s.extract 0 n).toList=s.data.toList.take n:=by
 rw [ByteArray.toList_eq]
 simp [ByteArray.data_extract,List.extract_eq_take_drop]
theorem hasB_list (s h:ByteArray):hasB s h=(decide (h.size≤s.size) && (s.data.toList.take h.size == h.data.toList)):=by
 unfold hasB;rw [ext0,ByteArray.toList_eq]
end Go.Proofs.YtajmeimjaapagaaGreatDoor
/- A part. -/
set_option linter.unusedVariables false
set_option linter.unusedSimpArgs false
namespace Go.Proofs.YtajmeimjaapagaaGreatDoor
open Go.RowKit Go.Deep
theorem rec_idle (w:World):CallsD Tryz.prog 268 #[] .returning w fun e u' w'=>e = .returned (.tuple #[])∧u' = .returning∧w'=w:=by
 refine callsD_of_wpS Tryz.func268 rfl fun c₀ cs hu=>?_
 apply wpS_region
 cases c₀
 simp_all [wpOpsS,go_sem,recoverD,Tryz.ntmps268,bodyPostS,results,Tryz.results268]
set_option maxRecDepth 100000 in
theorem all_key (v:Value) (ts:List ByteArray) (x:Bool) (w:World) (hv:Strs w 0 v ts) (hl:ts.length≤maxLen) (hs:∀ t∈ts,t.size≤maxLen) (hx:ts.all keyB=x) :
 Calls Tryz.prog 253 #[.func (.func 254) #[] #[],v] w fun e w'=>e = .returned (.bool x)∧Below w.heap.size w w':=by
 have qn:∀ w,(binOp .eql 207 (.func (.func 254) #[] #[]) .nilFunc).run Tryz.prog w = .ok (.bool false) w:=fun _=>by kernel_rfl
 unfold maxLen at hl
 have HV:=Lib.hid hv
 have HX:=Lib.hid hx
 have HSZ:=Lib.hid hs
 obtain ⟨a,cap,rfl⟩:=hv.form
 clear hv hx hs
 go_enter_defers Tryz.func253,Tryz.ntmps253
 go_wp2_with fail
 go_loopw [9] (fun i wr=>∃ k:Nat,k≤ts.length∧i = .int .i64 k∧Below w.heap.size w wr∧∀ j,j<k→keyB (ts.getD j ⟨#[]⟩)=true) (fun i _=>ts.length - (intOf i).toNat)
 case atStart=>exact ⟨0,Nat.zero_le _,rfl,Below.refl _ _,fun j hj=>by omega⟩
 case round=>
  obtain ⟨k,hk,rfl,hb,hok⟩:=hrel
  have HB:=Lib.hid hb
  have HOK:=Lib.hid hok
  clear hb hok
  by_cases hlt:k<ts.length
  ·obtain ⟨b,o,rfl,hck⟩:=(HV.out.below HB.out (Nat.le_refl _)).cellAt hlt
   obtain ⟨s,hse⟩:∃ s,s=ts.getD k ⟨#[]⟩:=⟨_,rfl⟩
   have hin:s∈ts:=by rw [hse];simp [List.getD_eq_getElem?_getD,List.getElem?_eq_getElem hlt]
   have hsz:s.size≤maxLen:=HSZ.out s hin
   rw [←hse] at hck
   have HSE:=Lib.hid hse
   clear hse
   go_wp2_with fail
   refine (key_any s _ hsz).mono ?_
   rintro e w1 ⟨rfl,hb⟩
   have HB2:=Lib.hid (HB.out.trans (hb.mono HB.out.size))
   clear hb
   cases hp:keyB s
   ·have hz:false=x:=by
     rw [←HX.out,eq_comm,←Bool.not_eq_true,List.all_eq_true]
     intro h
     rw [h s hin] at hp
     cases hp
    subst hz
    clear hp hin
    go_wp2_with fail
    refine leaves_cons (f:=268) (args:=#[]) (by simp) (by simp [go_sem]) ?_
    refine (rec_idle _).mono ?_
    rintro e u' w'' ⟨rfl,rfl,rfl⟩
    exact ⟨_,results_tmp rfl _ _ _,rfl,HB2.out⟩
   ·have HP:=Lib.hid hp
    clear hp hin
    go_wp2_with fail
    refine ⟨⟨k+1,by omega,by go_num,HB2.out,fun j hj=>?_⟩,by simp [intOf];omega⟩
    by_cases e:j=k
    ·subst e;rw [←HSE.out];exact HP.out
    ·exact HOK.out j (by omega)
  ·have hz:true=x:=by
    rw [←HX.out,eq_comm,List.all_eq_true]
    intro s hs
    obtain ⟨i,hi,rfl⟩:=List.getElem_of_mem hs
    have:=HOK.out i (by omega)
    rw [List.getD_eq_getElem?_getD,List.getElem?_eq_getElem hi] at this
    exact this
   subst hz
   go_wp2_with fail
   refine leaves_cons (f:=268) (args:=#[]) (by simp) (by simp [go_sem]) ?_
   refine (rec_idle _).mono ?_
   rintro e u' w'' ⟨rfl,rfl,rfl⟩
   exact ⟨_,results_tmp rfl _ _ _,rfl,HB.out⟩
end Go.Proofs.YtajmeimjaapagaaGreatDoor
