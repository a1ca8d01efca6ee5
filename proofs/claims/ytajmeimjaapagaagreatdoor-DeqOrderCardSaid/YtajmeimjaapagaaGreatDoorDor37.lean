/- A part. -/
import Derived.Test.YtajmeimjaapagaaGreatDoorDor21
import Derived.Test.YtajmeimjaapagaaGreatDoorDor22
set_option linter.unusedVariables false
set_option linter.unusedSimpArgs false
namespace Go.Proofs.YtajmeimjaapagaaGreatDoor
open Go.RowKit Go.Deep
def bytesK (ws:List Nat) (xs:List Int):Nat→List UInt8
 | 0=>[]
 | k+1=>bytesK ws xs k ++ Oc.numB (ws.getD k 0) (xs.getD k 0).toNat
def fitK (ws:List Nat) (xs:List Int) (k:Nat):Prop:=∀ i,i<k→Oc.FitN (ws.getD i 0) (xs.getD i 0)
def fit4 (ws:List Nat) (xs:List Int):Bool:=decide (Oc.FitN (ws.getD 0 0) (xs.getD 0 0)) && decide (Oc.FitN (ws.getD 1 0) (xs.getD 1 0)) && decide (Oc.FitN (ws.getD 2 0) (xs.getD 2 0)) && decide (Oc.FitN (ws.getD 3 0) (xs.getD 3 0))
theorem fit4_iff {ws:List Nat} {xs:List Int}:fit4 ws xs=true↔fitK ws xs 4:=by
 unfold fit4 fitK
 simp only [Bool.and_eq_true,decide_eq_true_eq]
 constructor
 ·rintro ⟨⟨⟨h0,h1⟩,h2⟩,h3⟩ i hi
  match i,hi with
  | 0,_=>exact h0
  | 1,_=>exact h1
  | 2,_=>exact h2
  | 3,_=>exact h3
 ·intro h
  exact ⟨⟨⟨h 0 (by decide),h 1 (by decide)⟩,h 2 (by decide)⟩,h 3 (by decide)⟩
def put4 (ws:List Nat) (xs:List Int):ByteArray:=if fit4 ws xs then ⟨(bytesK ws xs 4).toArray⟩ else ⟨#[]⟩
def Wide (ws:List Nat):Prop:=ws.length=4∧∀ i,i<4→1≤ws.getD i 0∧ws.getD i 0≤7
theorem bytesK_le {ws:List Nat} (hw:Wide ws) (xs:List Int):∀ k,k≤4→(bytesK ws xs k).length≤7*k
 | 0,_=>by simp [bytesK]
 | k+1,h=>by
  have h1:=bytesK_le hw xs k (by omega)
  have h2:=(hw.2 k (by omega)).2
  simp only [bytesK,List.length_append,Oc.numB_length]
  omega
def wInts (ws:List Nat):List Int:=ws.map (fun n:Nat=>(Int.ofNat n:Int))
theorem wInts_getD (ws:List Nat) (k:Nat):(wInts ws).getD k 0=(ws.getD k 0:Nat):=by
 unfold wInts
 simp only [List.getD_eq_getElem?_getD,List.getElem?_map]
 cases ws[k]?<;>rfl
def WidthsPost (w:World) (ws:List Nat) (e:Ending) (w':World):Prop:=∃ v,e = .returned v∧Oc.Ints w' v (wInts ws)∧Below w.heap.size w w'
theorem ints4 (w:World) (a b c d:Int):Oc.Ints (w.alloc (.cells #[.int .i64 a,.int .i64 b,.int .i64 c,.int .i64 d] 3)) (.slice (some ⟨w.heap.size,0,none⟩) 4 4) [a,b,c,d]:=by
 refine ⟨_,_,rfl,.inr ⟨w.heap.size,0,rfl,fun i hi=>?_⟩⟩
 have hh:=heap_alloc_new w (.cells #[.int .i64 a,.int .i64 b,.int .i64 c,.int .i64 d] 3)
 simp only [List.length_cons,List.length_nil] at hi
 unfold World.cell?
 simp only [Nat.zero_add,hh]
 match i,hi with
 | 0,_=>rfl
 | 1,_=>rfl
 | 2,_=>rfl
 | 3,_=>rfl
theorem markW_any (w:World):Calls Tryz.prog 125 #[] w (WidthsPost w [6,6,6,2]):=by
 go_enter Tryz.func125,Tryz.ntmps125
 go_wp2
 go_ret
 exact ⟨_,rfl,ints4 _ _ _ _ _,(Below.refl _ _).alloc (Nat.le_refl _) _⟩
theorem ints1 (w:World) (a:Int):Oc.Ints (w.alloc (.cells #[.int .i64 a] 3)) (.slice (some ⟨w.heap.size,0,none⟩) 1 1) [a]:=by
 refine ⟨_,_,rfl,.inr ⟨w.heap.size,0,rfl,fun i hi=>?_⟩⟩
 have hh:=heap_alloc_new w (.cells #[.int .i64 a] 3)
 obtain rfl:i=0:=by simp at hi;exact hi
 unfold World.cell?
 simp only [Nat.zero_add,hh]
 rfl
theorem cells4 (w:World) (a b c d:Int) (t:TypeId) (k:Nat) (hk:k<4):(w.alloc (.cells #[.int .i64 a,.int .i64 b,.int .i64 c,.int .i64 d] t)).cell? ⟨w.heap.size,k,none⟩=some (.int .i64 ([a,b,c,d].getD k 0)):=by
 have hh:=heap_alloc_new w (.cells #[.int .i64 a,.int .i64 b,.int .i64 c,.int .i64 d] t)
 unfold World.cell?
 simp only [hh]
 match k,hk with
 | 0,_=>rfl
 | 1,_=>rfl
 | 2,_=>rfl
 | 3,_=>rfl
theorem Oc.size_of' (l:List UInt8):(⟨l.toArray⟩:ByteArray).size=l.length:=by simp [ByteArray.size]
theorem Lib.byteCells_length (l:List UInt8):(Lib.byteCells l).length=l.length:=by simp [Lib.byteCells]
theorem bld_stays {B b:Nat} {bs:List Value} {w w':World} (h:BldIs B b bs w) (hb:Below w.heap.size w w'):BldIs B b bs w':=by
 have one:∀ p,Lib.BuilderAt 147 5 B b p bs w→Lib.BuilderAt 147 5 B b p bs w':=by
  rintro p ⟨hB,v,hbk,hown,hne⟩
  have hlt:b<w.heap.size:=Lib.BuilderAt.lt ⟨hB,v,hbk,hown,hne⟩
  exact ⟨hB,v,(hb.block b hlt).trans hbk,hown.kept (row:=none) ⟨hb.os,hb.tape,hb.output,hb.size,fun k hk _=>hb.block k hk⟩ (by by_cases hn:v.ownBlock=none;exact .inl hn;exact .inr hn),hne⟩
 exact h.imp (one _) (one _)
theorem numsB1 (n:Nat) (x:Int):Oc.numsB n [x]=Oc.numB n x.toNat:=by simp [Oc.numsB]
set_option maxHeartbeats 1000000 in
theorem ent_put_any (ws:List Nat) (hw:Wide ws) (a b c d:Int) (v:Value) (w:World) (hv:Oc.Ints w v (wInts ws)) :
 Calls Tryz.prog 124 #[.agg #[.int .i64 a,.int .i64 b,.int .i64 c,.int .i64 d],v] w fun e w'=>e = .returned (.tuple #[.string (put4 ws [a,b,c,d]),.bool (fit4 ws [a,b,c,d])])∧Below w.heap.size w w':=by
 obtain ⟨xs,hxs⟩:∃ xs,xs=[a,b,c,d]:=⟨_,rfl⟩
 obtain ⟨va,cap,rfl,hc⟩:=hv
 have hlen:(wInts ws).length=4:=by unfold wInts;rw [List.length_map];exact hw.1
 obtain ⟨vb,vo,rfl,hcell⟩:=hc.resolve_left (fun h=>by rw [h] at hlen;cases hlen)
 rw [hlen] at hcell ⊢
 rw [←hxs]
 have HX:Hid (∀ k,k<4→(w.alloc (.cells #[.int .i64 a,.int .i64 b,.int .i64 c,.int .i64 d] 196)).cell? ⟨w.heap.size,k,none⟩=some (.int .i64 (xs.getD k 0))):=Lib.hid (fun k hk=>by rw [hxs];exact cells4 w a b c d _ k hk)
 have hvb:vb<w.heap.size:=World.block_lt_of_cell? _ _ (hcell 0 (by decide))
 have HC:=Lib.hid hcell
 have HW:=Lib.hid hw
 clear hc hcell hlen hxs hw
 go_enter Tryz.func124,Tryz.ntmps124
 go_wp2_with fail
 go_loopw [13] (fun i wr=>∃ k:Nat,k≤4∧i = .int .i64 k∧Hid (fitK ws xs k)∧Hid (BldIs (w.heap.size+1) (w.heap.size+1) (Lib.byteCells (bytesK ws xs k)) wr)∧Hid (Below (w.heap.size+1) (w.alloc (.cells #[.int .i64 a,.int .i64 b,.int .i64 c,.int .i64 d] 196)) wr)) (fun i _=>4 - (intOf i).toNat)
 case atStart=>exact ⟨0,Nat.zero_le _,rfl,Lib.hid (fun i hi=>by omega),Lib.hid (Or.inl ⟨by simp,.slice none 0 0,by rw [show w.heap.size+1=(w.alloc (.cells #[.int .i64 a,.int .i64 b,.int .i64 c,.int .i64 d] 196)).heap.size from by simp];exact heap_alloc_new _ _,World.ownsRow_nil _ _ _ _,by simp [Value.ownBlock]⟩),Lib.hid ((Below.refl _ _).alloc (by simp) _)⟩
 case round=>
  obtain ⟨k,hk,rfl,hfit,hbl,hbel⟩:=hrel
  by_cases hlt:k<4
  ·obtain ⟨n,hn⟩:∃ n,n=ws.getD k 0:=⟨_,rfl⟩
   obtain ⟨x,hx⟩:∃ x,x=xs.getD k 0:=⟨_,rfl⟩
   have h17:=HW.out.2 k hlt
   rw [←hn] at h17
   have cw:wr.cell? ⟨vb,vo+k,none⟩=some (.int .i64 n):=by
    rw [hbel.out.cell (p:=⟨vb,vo+k,none⟩) (by show vb<_;omega),World.cell?_alloc_lt _ _ _ hvb,HC.out k hlt,wInts_getD,←hn]
   have cx:wr.cell? ⟨w.heap.size,k,none⟩=some (.int .i64 x):=by
    rw [hbel.out.cell (p:=⟨w.heap.size,k,none⟩) (by show w.heap.size<_;omega),HX.out k hlt,←hx]
   have HXX:=Lib.hid hx
   have HN:=Lib.hid hn
   have hsz:=hbel.out.size
   simp at hsz
   have hlenk:=bytesK_le HW.out xs k hk
   clear hn hx
   by_cases hf:Oc.FitN n x
   ·have HFIT:=Lib.hid hf
    clear hf
    go_wp2_with fail
    refine (Oc.numS_ok n _ [x] _ h17.1 h17.2 (by simp) (ints1 wr x) (fun y hy=>by rw [List.mem_singleton.1 hy];exact HFIT.out)).mono ?_
    rintro e w1 ⟨rfl,hb1⟩
    rw [numsB1]
    have HB1:=Lib.hid hb1
    have hs1:=hb1.size
    simp at hs1
    obtain ⟨p,hp⟩:∃ p,p=Oc.numB n x.toNat:=⟨_,rfl⟩
    have hp7:p.length≤7:=by rw [hp,Oc.numB_length];exact h17.2
    rw [←hp]
    have HP:=Lib.hid hp
    clear hb1 hp
    go_wp2_with fail
    refine (bwrite_any (w.heap.size+1) (w.heap.size+1) _ ⟨p.toArray⟩ _ (bld_stays hbl.out ((Below.refl _ _).alloc (Nat.le_refl _) _ |>.trans (HB1.out.mono (by simp)))) (by rw [Oc.size_of',Lib.byteCells_length];omega) (by omega)).mono ?_
    rintro e w2 ⟨rfl,hbl2,hb2⟩
    have HBL:=Lib.hid hbl2
    have HB2:=Lib.hid hb2
    clear hbl2 hb2
    go_wp2_with fail
    go_roundw
    case rel=>
     refine ⟨k+1,by omega,by go_num,Lib.hid (fun i hi=>?_),Lib.hid ?_,Lib.hid ?_⟩
     ·rcases Nat.lt_succ_iff_lt_or_eq.1 hi with h|rfl
      ·exact hfit.out i h
      ·rw [←HN.out,←HXX.out];exact HFIT.out
     ·have:=HBL.out
      rw [Lib.strCells_eq,←Lib.byteCells_append,HP.out,HN.out,HXX.out] at this
      exact this
     ·exact (hbel.out.alloc (by omega) _).trans ((HB1.out.mono (by simp;omega)).trans HB2.out)
    case measure=>simp [intOf];omega
   ·have HFIT:=Lib.hid (show ¬ ∀ y∈[x],Oc.FitN n y by simpa using hf)
    have HNO:=Lib.hid (show fit4 ws xs=false from Bool.eq_false_iff.2 fun h=>hf (by rw [HN.out,HXX.out];exact fit4_iff.1 h k hlt))
    clear hf
    go_wp2_with fail
    refine (Oc.numS_range n _ [x] _ h17.1 h17.2 (by simp) (ints1 wr x) HFIT.out).mono ?_
    rintro e w1 ⟨rfl,hb1⟩
    have HB1:=Lib.hid hb1
    clear hb1
    go_wp2_with fail
    go_ret2
    refine ⟨?_,?_⟩
    ·unfold put4
     rw [HNO.out]
     rfl
    ·exact ((((Below.refl _ _).alloc (Nat.le_refl _) _).trans (hbel.out.mono (Nat.le_succ _))).alloc (by omega) _).trans (HB1.out.mono (by simp;omega))
  ·obtain rfl:k=4:=by omega
   have HYES:=Lib.hid (show fit4 ws xs=true from fit4_iff.2 hfit.out)
   have hsz:=hbel.out.size
   simp at hsz
   go_wp2_with fail
   refine (Tryz.Builder_String_any (w.heap.size+1) (w.heap.size+1) _ _ hbl.out (by omega)).mono ?_
   rintro e w1 ⟨rfl,hb1⟩
   have HB1:=Lib.hid hb1
   clear hb1
   go_wp2_with fail
   go_ret2
   refine ⟨?_,?_⟩
   ·unfold put4
    rw [HYES.out]
    rfl
   ·exact (((Below.refl _ _).alloc (Nat.le_refl _) _).trans (hbel.out.mono (Nat.le_succ _))).trans (HB1.out.mono (Nat.le_succ _))
end Go.Proofs.YtajmeimjaapagaaGreatDoor
