/- A part. -/
import Derived.Deep.RegionHeld3
import Derived.Test.YtajmeimjaapagaaGreatDoorDor37
set_option linter.unusedVariables false
set_option linter.unusedSimpArgs false
namespace Go.Proofs.YtajmeimjaapagaaGreatDoor
open Go.RowKit Go.Deep
theorem wide_mark:Wide [6,6,6,2]:=⟨rfl,fun i hi=>match i,hi with|0,_|1,_|2,_|3,_=>⟨by decide,by decide⟩⟩
theorem keep4 {w1 w2:World} (hb:Below w1.heap.size w1 w2) {b i:Nat} {v:Value} (h:w1.cell? ⟨b,i,none⟩=some v):w2.cell? ⟨b,i,none⟩=some v:=
 (hb.cell (p:=⟨b,i,none⟩) (World.block_lt_of_cell? _ _ h)).trans h
theorem below_on {B:Nat} {w w1 w2:World} (hb:Below w1.heap.size w1 w2) (h:Below B w w1) (hB:B≤w.heap.size):Below B w w2:=h.trans (hb.mono (Nat.le_trans hB h.size))
def PutPost (w:World) (ws:List Nat) (xs:List Int) (e:Ending) (w':World):Prop:=e = .returned (.tuple #[.string (put4 ws xs),.bool (fit4 ws xs)])∧Below w.heap.size w w'
set_option maxHeartbeats 1000000 in
theorem markPut_any (a b c d:Int) (w:World):Calls Tryz.prog 78 #[.agg #[.int .i64 a,.int .i64 b,.int .i64 c,.int .i64 d]] w (PutPost w [6,6,6,2] [a,b,c,d]):=by
 have k0:(w.alloc (.cells #[.int .i64 a,.int .i64 b,.int .i64 c,.int .i64 d] 89)).cell? ⟨w.heap.size,0,none⟩=some (.int .i64 a):=cells4 w a b c d _ 0 (by decide)
 have k1:(w.alloc (.cells #[.int .i64 a,.int .i64 b,.int .i64 c,.int .i64 d] 89)).cell? ⟨w.heap.size,1,none⟩=some (.int .i64 b):=cells4 w a b c d _ 1 (by decide)
 have k2:(w.alloc (.cells #[.int .i64 a,.int .i64 b,.int .i64 c,.int .i64 d] 89)).cell? ⟨w.heap.size,2,none⟩=some (.int .i64 c):=cells4 w a b c d _ 2 (by decide)
 have k3:(w.alloc (.cells #[.int .i64 a,.int .i64 b,.int .i64 c,.int .i64 d] 89)).cell? ⟨w.heap.size,3,none⟩=some (.int .i64 d):=cells4 w a b c d _ 3 (by decide)
 have HS:Hid (Below w.heap.size w (w.alloc (.cells #[.int .i64 a,.int .i64 b,.int .i64 c,.int .i64 d] 89))):=Lib.hid ((Below.refl _ _).alloc (Nat.le_refl _) _)
 have hz:(w.alloc (.cells #[.int .i64 a,.int .i64 b,.int .i64 c,.int .i64 d] 89)).heap.size=w.heap.size+1:=by simp
 go_enter Tryz.func78,Tryz.ntmps78
 obtain ⟨W,hW⟩:∃ W,W=w.alloc (.cells #[.int .i64 a,.int .i64 b,.int .i64 c,.int .i64 d] 89):=⟨_,rfl⟩
 rw [←hW] at k0 k1 k2 k3 HS hz
 have HW:=Lib.hid hW
 have HZ:=Lib.hid hz
 clear hW hz
 go_wp2_with fail
 rw [←HW.out]
 go_region_held3 (fun w'=>w'.cell? ⟨w.heap.size,0,none⟩=some (.int .i64 a)∧w'.cell? ⟨w.heap.size,1,none⟩=some (.int .i64 b)∧w'.cell? ⟨w.heap.size,2,none⟩=some (.int .i64 c)∧w'.cell? ⟨w.heap.size,3,none⟩=some (.int .i64 d))
  (first|exact ⟨k0,k1,k2,k3⟩|go_keep)
  (first
   | (go_at_call 125
      refine (markW_any _).mono ?_
      rintro e w1 ⟨v,rfl,hv,hb⟩
      obtain ⟨va,vc,hve,hvr⟩:=id hv
      subst hve
      have k0:=keep4 hb k0
      have k1:=keep4 hb k1
      have k2:=keep4 hb k2
      have k3:=keep4 hb k3
      have HV:=Lib.hid hv
      have HB:=Lib.hid hb
      clear hb hv hvr)
   | (go_at_call 124
      refine (ent_put_any [6,6,6,2] wide_mark a b c d _ _ ?_).mono ?_
      ·first|exact HV.out
      rintro e w2 ⟨rfl,hb2⟩
      have k0:=keep4 hb2 k0
      have k1:=keep4 hb2 k1
      have k2:=keep4 hb2 k2
      have k3:=keep4 hb2 k3
      have HB2:=Lib.hid hb2
      clear hb2))
 all_goals
  go_wp2_with fail
  go_ret2
  refine ⟨rfl,?_⟩
  repeat (first|exact HS.out|with_reducible refine Below.drew ?_|with_reducible refine Below.drewN ?_ _|refine below_on HB2.out ?_ (Nat.le_refl _)|refine below_on HB.out ?_ (Nat.le_refl _))
def offK (ws:List Nat):Nat→Nat
 | 0=>0
 | k+1=>offK ws k+ws.getD k 0
def numAt (s:ByteArray) (ws:List Nat) (k:Nat):Nat:=Oc.getN ((s.data.toList.drop (offK ws k)).take (ws.getD k 0))
def getOk (s:ByteArray) (ws:List Nat):Bool:=decide (s.size=offK ws 4)
def get4 (s:ByteArray) (ws:List Nat) (k:Nat):Int:=if getOk s ws then (numAt s ws k:Int) else 0
theorem offK_mono (ws:List Nat):∀ k j,k≤j→offK ws k≤offK ws j:=by
 intro k j h
 induction h with
 | refl=>exact Nat.le_refl _
 | step _ ih=>exact Nat.le_trans ih (Nat.le_add_right _ _)
structure Step (s:ByteArray) (ws:List Nat) (k:Nat) (rest:ByteArray) (x:Int) (z:Nat→Int):Prop where
 yes:x=0→rest.data.toList=s.data.toList.drop (offK ws k)∧offK ws k≤s.size∧∀ i,i<k→z i=numAt s ws i
 no:x≠0→s.size<offK ws 4
theorem cut_yes {s:ByteArray} {n:Nat} (h:n≤s.size):Oc.cutS s n=(s.extract 0 n,s.extract n s.size,0):=by
 unfold Oc.cutS
 rw [if_neg (by omega),if_neg (by omega),Int.toNat_natCast]
theorem cut_no {s:ByteArray} {n:Nat} (h:s.size<n):Oc.cutS s n=(⟨#[]⟩,⟨#[]⟩,3):=by
 unfold Oc.cutS
 rw [if_neg (by omega),if_pos (by omega)]
theorem num_yes {s rest:ByteArray} {ws:List Nat} {k:Nat} (hw:Wide ws) (hk:k<4) (hr:rest.data.toList=s.data.toList.drop (offK ws k)) (ho:offK ws (k+1)≤s.size) :
 ∃ r,Oc.numS rest (ws.getD k 0:Nat)=(numAt s ws k,r,0)∧r.data.toList=s.data.toList.drop (offK ws (k+1)):=by
 have h17:=hw.2 k hk
 have hz:rest.size=s.size - offK ws k:=by
  show rest.data.toList.length=s.data.toList.length - _
  rw [hr,List.length_drop]
 have ho':offK ws (k+1)=offK ws k+ws.getD k 0:=rfl
 refine ⟨rest.extract (ws.getD k 0) rest.size,?_,?_⟩
 ·unfold Oc.numS
  rw [if_pos (by omega),cut_yes (by omega),if_pos rfl]
  simp only [Prod.mk.injEq,and_true]
  unfold numAt
  rw [←hr]
  congr 1
  rw [ByteArray.data_extract,Array.toList_extract,List.extract_eq_take_drop,List.drop_zero,Nat.sub_zero]
 ·rw [ByteArray.data_extract,Array.toList_extract,ho',←List.drop_drop,←hr]
  rw [List.extract_eq_take_drop]
  refine List.take_of_length_le ?_
  rw [List.length_drop]
  exact Nat.le_refl _
theorem num_no {s rest:ByteArray} {ws:List Nat} {k:Nat} (hw:Wide ws) (hk:k<4) (hr:rest.data.toList=s.data.toList.drop (offK ws k)) (h0:offK ws k≤s.size) (ho:s.size<offK ws (k+1)) :
 Oc.numS rest (ws.getD k 0:Nat)=(0,⟨#[]⟩,3):=by
 have h17:=hw.2 k hk
 have hz:rest.size=s.size - offK ws k:=by
  show rest.data.toList.length=s.data.toList.length - _
  rw [hr,List.length_drop]
 have ho':offK ws (k+1)=offK ws k+ws.getD k 0:=rfl
 unfold Oc.numS
 rw [if_pos (by omega),cut_no (by omega),if_neg (by decide)]
def GetPost (w:World) (s:ByteArray) (ws:List Nat) (e:Ending) (w':World):Prop:=
 e = .returned (.tuple #[.agg #[.int .i64 (get4 s ws 0),.int .i64 (get4 s ws 1),.int .i64 (get4 s ws 2),.int .i64 (get4 s ws 3)],.bool (getOk s ws)])∧Below w.heap.size w w'
theorem Step.rest_size {s rest:ByteArray} {ws:List Nat} {k:Nat} {z:Nat→Int} (h:Step s ws k rest 0 z):rest.size=s.size - offK ws k:=by
 show rest.data.toList.length=s.data.toList.length - _
 rw [(h.yes rfl).1,List.length_drop]
theorem set4 {w:World} {b:Nat} {t:TypeId} {f:Nat→Value} (h:w.rowIs b t 4 f) (v0 v1 v2 v3:Value) {W:World} (hW:W=((((w.setCell ⟨b,0,none⟩ v0).setCell ⟨b,1,none⟩ v1).setCell ⟨b,2,none⟩ v2).setCell ⟨b,3,none⟩ v3)) :
 W.cell? ⟨b,0,none⟩=some v0∧W.cell? ⟨b,1,none⟩=some v1∧W.cell? ⟨b,2,none⟩=some v2∧W.cell? ⟨b,3,none⟩=some v3:=by
 subst hW
 have hr:=(((h.set 0 v0).set 1 v1).set 2 v2).set 3 v3
 exact ⟨by simpa using hr.cell (i:=0) (by decide),by simpa using hr.cell (i:=1) (by decide),by simpa using hr.cell (i:=2) (by decide),by simpa using hr.cell (i:=3) (by decide)⟩
theorem below_set4 {B b:Nat} {w0 w W:World} (h:Below B w0 w) (hb:B≤b) {v0 v1 v2 v3:Value} (hW:W=((((w.setCell ⟨b,0,none⟩ v0).setCell ⟨b,1,none⟩ v1).setCell ⟨b,2,none⟩ v2).setCell ⟨b,3,none⟩ v3)):Below B w0 W:=by
 subst hW
 exact (((h.setCell hb _).setCell hb _).setCell hb _).setCell hb _
theorem rd3 (w:World) (s:ByteArray):Oc.Rd (((w.alloc (.cells #[.int .i64 0,.int .i64 0,.int .i64 0,.int .i64 0] 196)).alloc (.cells #[.string s,.int .i64 0] 191)).alloc (.cells #[.int .i64 0,.int .i64 0,.int .i64 0,.int .i64 0] 196)) (w.heap.size+1) s 0:=by
 unfold Oc.Rd
 rw [Lib.alloc_old _ _ _ (by simp),show w.heap.size+1=(w.alloc (.cells #[.int .i64 0,.int .i64 0,.int .i64 0,.int .i64 0] 196)).heap.size from by simp]
 exact heap_alloc_new _ _
theorem row4 (w:World) (t:TypeId):(w.alloc (.cells #[.int .i64 0,.int .i64 0,.int .i64 0,.int .i64 0] t)).rowIs w.heap.size t 4 (fun _=>.int .i64 0):=
 World.rowIs_alloc w _ t _ (fun i hi=>match i,hi with|0,_|1,_|2,_|3,_=>rfl)
theorem row3 (w:World) (s:ByteArray):(((w.alloc (.cells #[.int .i64 0,.int .i64 0,.int .i64 0,.int .i64 0] 196)).alloc (.cells #[.string s,.int .i64 0] 191)).alloc (.cells #[.int .i64 0,.int .i64 0,.int .i64 0,.int .i64 0] 196)).rowIs (w.heap.size+1+1) 196 4 (fun _=>.int .i64 0) ∧
 (((w.alloc (.cells #[.int .i64 0,.int .i64 0,.int .i64 0,.int .i64 0] 196)).alloc (.cells #[.string s,.int .i64 0] 191)).alloc (.cells #[.int .i64 0,.int .i64 0,.int .i64 0,.int .i64 0] 196)).rowIs w.heap.size 196 4 (fun _=>.int .i64 0):=by
 refine ⟨?_,((row4 w _).alloc _).alloc _⟩
 have:=row4 ((w.alloc (.cells #[.int .i64 0,.int .i64 0,.int .i64 0,.int .i64 0] 196)).alloc (.cells #[.string s,.int .i64 0] 191)) 196
 simpa using this
set_option maxHeartbeats 1000000 in
theorem getE_any (ws:List Nat) (hw:Wide ws) (s:ByteArray) (v:Value) (w:World) (hv:Oc.Ints w v (wInts ws)) :
 Calls Tryz.prog 256 #[.string s,v] w (GetPost w s ws):=by
 obtain ⟨va,cap,rfl,hc⟩:=hv
 have hlen:(wInts ws).length=4:=by unfold wInts;rw [List.length_map];exact hw.1
 obtain ⟨vb,vo,rfl,hcell⟩:=hc.resolve_left (fun h=>by rw [h] at hlen;cases hlen)
 rw [hlen] at hcell ⊢
 have hvb:vb<w.heap.size:=World.block_lt_of_cell? _ _ (hcell 0 (by decide))
 have HC:=Lib.hid hcell
 have HW:=Lib.hid hw
 clear hc hcell hlen hw
 go_enter Tryz.func256,Tryz.ntmps256
 go_wp2_with fail
 refine (Oc.new_any s _).mono ?_
 rintro e w1 ⟨rfl,rfl⟩
 go_wp2_with fail
 go_loopw [14] (fun i wr=>∃ (k:Nat) (rest:ByteArray) (x:Int) (z:Nat→Int),k≤4∧i = .int .i64 k∧Hid (Step s ws k rest x z)∧Hid (Oc.Rd wr (w.heap.size+1) rest x)∧Hid (wr.rowIs (w.heap.size+1+1) 196 4 (fun j=>.int .i64 (z j)))∧Hid (wr.rowIs w.heap.size 196 4 (fun j=>.int .i64 0))∧Hid (Below w.heap.size w wr)) (fun i _=>4 - (intOf i).toNat)
 case atStart=>
  refine ⟨0,s,0,fun _=>0,Nat.zero_le _,rfl,Lib.hid ⟨fun _=>⟨rfl,Nat.zero_le _,fun i hi=>by omega⟩,fun h=>absurd rfl h⟩,Lib.hid ?_,Lib.hid ?_,Lib.hid ?_,Lib.hid ?_⟩
  ·exact rd3 w s
  ·exact (row3 w s).1
  ·exact (row3 w s).2
  ·exact (((Below.refl _ _).alloc (Nat.le_refl _) _).alloc (by simp) _).alloc (by simp;omega) _
 case round=>
  obtain ⟨k,rest,x,z,hk,rfl,hst,hrd,hz,hz0,hbel⟩:=hrel
  have hsz:=hbel.out.size
  by_cases hlt:k<4
  ·have cw:wr.cell? ⟨vb,vo+k,none⟩=some (.int .i64 (ws.getD k 0:Nat)):=by
    rw [hbel.out.cell (p:=⟨vb,vo+k,none⟩) hvb,HC.out k hlt,wInts_getD]
   obtain ⟨n,hn⟩:∃ n,n=ws.getD k 0:=⟨_,rfl⟩
   rw [←hn] at cw
   have HN:=Lib.hid hn
   clear hn
   by_cases hx:x=0
   ·subst hx
    by_cases ho:offK ws (k+1)≤s.size
    ·obtain ⟨r,hr,hr2⟩:=num_yes HW.out hlt (hst.out.yes rfl).1 ho
     rw [←HN.out] at hr
     have HR:=Lib.hid hr
     have HR2:=Lib.hid hr2
     have HO:=Lib.hid ho
     clear hr hr2 ho
     go_wp2_with fail
     refine (Oc.num_any _ rest n _ hrd.out HR.out).mono ?_
     rintro e w2 ⟨rfl,hrd2,hg2⟩
     have hst2:∀ z':Nat→Int,(∀ i,i<k→z' i=z i)→z' k=(numAt s ws k:Nat)→Step s ws (k+1) (Oc.goS rest r 0) 0 z':=fun z' h1 h2=>⟨fun _=>⟨HR2.out,HO.out,fun i hi=>by
      rcases Nat.lt_succ_iff_lt_or_eq.1 hi with h|rfl
      ·rw [h1 i h,(hst.out.yes rfl).2.2 i h]
      ·exact h2⟩,fun h=>absurd rfl h⟩
     have HST:=Lib.hid hst2
     have HRD:=Lib.hid hrd2
     have hg:=hg2
     have hlt2:w.heap.size+1+1<wr.heap.size:=hz.out.lt
     have hz2:w2.rowIs (w.heap.size+1+1) 196 4 (fun j=>.int .i64 (z j)):=hz.out.of_block (hg.block _ hlt2 (by simp))
     have hz02:w2.rowIs w.heap.size 196 4 (fun j=>.int .i64 0):=hz0.out.of_block (hg.block _ hz0.out.lt (by simp))
     have d4:=hz2.cell hlt
     have f4:=hz2.frozen k
     have HB2:=Lib.hid (below_grown' hbel.out hg (Nat.le_refl _) (Nat.le_succ _))
     have HZ2:=Lib.hid hz2
     have HZ02:=Lib.hid hz02
     clear hst2 hrd2 hg2 hg hz2 hz02
     go_wp2_with fail
     go_roundw
     case rel=>
      refine ⟨k+1,_,_,fun j=>if j=k then (numAt s ws k:Int) else z j,by omega,by go_num,Lib.hid (HST.out _ (fun i hi=>by simp [Nat.ne_of_lt hi]) (by simp)),Lib.hid ?_,Lib.hid ?_,Lib.hid ?_,Lib.hid (HB2.out.setCell (p:=⟨w.heap.size+1+1,k,none⟩) (by show _≤w.heap.size+1+1;omega) _)⟩
      ·exact (blk_setCell_other _ _ _ _ (by simp)).trans HRD.out
      ·exact (HZ2.out.set k _).congr (fun i hi=>by dsimp only;split<;>rfl)
      ·exact HZ02.out.setOther (by show w.heap.size≠w.heap.size+1+1;omega) _
     case measure=>simp [intOf];omega
    ·have hr:=num_no HW.out hlt (hst.out.yes rfl).1 (hst.out.yes rfl).2.1 (by omega)
     rw [←HN.out] at hr
     have HR:=Lib.hid hr
     have HO:=Lib.hid ho
     clear hr ho
     go_wp2_with fail
     refine (Oc.num_any _ rest n _ hrd.out HR.out).mono ?_
     rintro e w2 ⟨rfl,hrd2,hg2⟩
     have hst2:∀ z':Nat→Int,(∀ i,i<k→z' i=z i)→z' k=((0:Nat):Int)→Step s ws (k+1) (Oc.goS rest ⟨#[]⟩ 3) 3 z':=fun z' h1 h2=>⟨fun h=>absurd h (by decide),fun _=>Nat.lt_of_lt_of_le (Nat.lt_of_not_le HO.out) (offK_mono ws _ _ (by omega))⟩
     have HST:=Lib.hid hst2
     have HRD:=Lib.hid hrd2
     have hg:=hg2
     have hlt2:w.heap.size+1+1<wr.heap.size:=hz.out.lt
     have hz2:w2.rowIs (w.heap.size+1+1) 196 4 (fun j=>.int .i64 (z j)):=hz.out.of_block (hg.block _ hlt2 (by simp))
     have hz02:w2.rowIs w.heap.size 196 4 (fun j=>.int .i64 0):=hz0.out.of_block (hg.block _ hz0.out.lt (by simp))
     have d4:=hz2.cell hlt
     have f4:=hz2.frozen k
     have HB2:=Lib.hid (below_grown' hbel.out hg (Nat.le_refl _) (Nat.le_succ _))
     have HZ2:=Lib.hid hz2
     have HZ02:=Lib.hid hz02
     clear hst2 hrd2 hg2 hg hz2 hz02
     go_wp2_with fail
     go_roundw
     case rel=>
      refine ⟨k+1,_,_,fun j=>if j=k then ((0:Nat):Int) else z j,by omega,by go_num,Lib.hid (HST.out _ (fun i hi=>by simp [Nat.ne_of_lt hi]) (by simp)),Lib.hid ?_,Lib.hid ?_,Lib.hid ?_,Lib.hid (HB2.out.setCell (p:=⟨w.heap.size+1+1,k,none⟩) (by show _≤w.heap.size+1+1;omega) _)⟩
      ·exact (blk_setCell_other _ _ _ _ (by simp)).trans HRD.out
      ·exact (HZ2.out.set k _).congr (fun i hi=>by dsimp only;split<;>rfl)
      ·exact HZ02.out.setOther (by show w.heap.size≠w.heap.size+1+1;omega) _
     case measure=>simp [intOf];omega
   ·have HX:=Lib.hid hx
    clear hx
    go_wp2_with fail
    refine (Oc.num_none _ rest n x _ hrd.out HX.out).mono ?_
    rintro e w2 ⟨rfl,hw2⟩
    subst hw2
    have hrd2:=hrd.out
    have hg2:=Oc.grownBy_refl wr (some (w.heap.size+1))
    have hst2:∀ z':Nat→Int,(∀ i,i<k→z' i=z i)→z' k=(0:Int)→Step s ws (k+1) rest x z':=fun z' h1 h2=>⟨fun h=>absurd h HX.out,hst.out.no⟩
    have HST:=Lib.hid hst2
    have HRD:=Lib.hid hrd2
    have hg:=hg2
    have hlt2:w.heap.size+1+1<wr.heap.size:=hz.out.lt
    have hz2:wr.rowIs (w.heap.size+1+1) 196 4 (fun j=>.int .i64 (z j)):=hz.out.of_block (hg.block _ hlt2 (by simp))
    have hz02:wr.rowIs w.heap.size 196 4 (fun j=>.int .i64 0):=hz0.out.of_block (hg.block _ hz0.out.lt (by simp))
    have d4:=hz2.cell hlt
    have f4:=hz2.frozen k
    have HB2:=Lib.hid (below_grown' hbel.out hg (Nat.le_refl _) (Nat.le_succ _))
    have HZ2:=Lib.hid hz2
    have HZ02:=Lib.hid hz02
    clear hst2 hrd2 hg2 hg hz2 hz02
    go_wp2_with fail
    go_roundw
    case rel=>
     refine ⟨k+1,_,_,fun j=>if j=k then (0:Int) else z j,by omega,by go_num,Lib.hid (HST.out _ (fun i hi=>by simp [Nat.ne_of_lt hi]) (by simp)),Lib.hid ?_,Lib.hid ?_,Lib.hid ?_,Lib.hid (HB2.out.setCell (p:=⟨w.heap.size+1+1,k,none⟩) (by show _≤w.heap.size+1+1;omega) _)⟩
     ·exact (blk_setCell_other _ _ _ _ (by simp)).trans HRD.out
     ·exact (HZ2.out.set k _).congr (fun i hi=>by dsimp only;split<;>rfl)
     ·exact HZ02.out.setOther (by show w.heap.size≠w.heap.size+1+1;omega) _
    case measure=>simp [intOf];omega
  ·obtain rfl:k=4:=by omega
   have hr0:=hz0.out.cell (i:=0) (by decide)
   have hr1:=hz0.out.cell (i:=1) (by decide)
   have hr2:=hz0.out.cell (i:=2) (by decide)
   have hr3:=hz0.out.cell (i:=3) (by decide)
   have hc0:=hz.out.cell (i:=0) (by decide)
   have hc1:=hz.out.cell (i:=1) (by decide)
   have hc2:=hz.out.cell (i:=2) (by decide)
   have hc3:=hz.out.cell (i:=3) (by decide)
   have hf0:=hz0.out.frozen 0
   have hf1:=hz0.out.frozen 1
   have hf2:=hz0.out.frozen 2
   have hf3:=hz0.out.frozen 3
   go_wp2_with fail
   refine (Oc.end_any _ rest x _ hrd.out).mono ?_
   rintro e w2 ⟨rfl,hw2⟩
   subst hw2
   by_cases hok:x=0∧s.size=offK ws 4
   ·obtain ⟨rfl,hs4⟩:=hok
    have he:Oc.endE rest 0=0:=by
     have:=hst.out.rest_size
     unfold Oc.endE
     rw [if_pos rfl,if_neg (by omega)]
    rw [he]
    have HOK:=Lib.hid (show getOk s ws=true from decide_eq_true hs4)
    have hv:=(hst.out.yes rfl).2.2
    rw [hv 0 (by decide)] at hc0
    rw [hv 1 (by decide)] at hc1
    rw [hv 2 (by decide)] at hc2
    rw [hv 3 (by decide)] at hc3
    clear hs4 he hv
    go_wp2_with fail
    obtain ⟨W4,hW4⟩:∃ W,W=(((wr.setCell ⟨w.heap.size,0,none⟩ (.int .i64 (numAt s ws 0))).setCell ⟨w.heap.size,1,none⟩ (.int .i64 (numAt s ws 1))).setCell ⟨w.heap.size,2,none⟩ (.int .i64 (numAt s ws 2))).setCell ⟨w.heap.size,3,none⟩ (.int .i64 (numAt s ws 3)):=⟨_,rfl⟩
    have hB4:=below_set4 hbel.out (Nat.le_refl _) hW4
    obtain ⟨e0,e1,e2,e3⟩:=set4 hz0.out _ _ _ _ hW4
    rw [←hW4]
    refine bodyPost_ret (v:=.tuple #[.agg #[.int .i64 (numAt s ws 0),.int .i64 (numAt s ws 1),.int .i64 (numAt s ws 2),.int .i64 (numAt s ws 3)],.bool true]) ?_ rfl ⟨?_,?_⟩
    ·clear hW4 hB4 hr0 hr1 hr2 hr3
     simp [results,Tryz.results256,go_sem,e0,e1,e2,e3]
    ·unfold get4
     rw [HOK.out]
     rfl
    ·exact hB4
   ·have he:Oc.endE rest x≠0:=by
     unfold Oc.endE
     by_cases hx:x=0
     ·subst hx
      have:=hst.out.rest_size
      have:=(hst.out.yes rfl).2.1
      rw [if_pos rfl,if_pos (by omega)]
      decide
     ·rw [if_neg hx]
      exact hx
    obtain ⟨y,hy⟩:∃ y,y=Oc.endE rest x:=⟨_,rfl⟩
    rw [←hy] at he ⊢
    have hb:(y == 0)=false:=by simpa using he
    have HOK:=Lib.hid (show getOk s ws=false from decide_eq_false fun h=>hok ⟨Classical.byContradiction fun hx=>by have:=hst.out.no hx;omega,h⟩)
    have HY:=Lib.hid hy
    clear he hy hok
    go_wp2_with fail
    obtain ⟨W4,hW4⟩:∃ W,W=(((wr.setCell ⟨w.heap.size,0,none⟩ (.int .i64 0)).setCell ⟨w.heap.size,1,none⟩ (.int .i64 0)).setCell ⟨w.heap.size,2,none⟩ (.int .i64 0)).setCell ⟨w.heap.size,3,none⟩ (.int .i64 0):=⟨_,rfl⟩
    have hB4:=below_set4 hbel.out (Nat.le_refl _) hW4
    obtain ⟨e0,e1,e2,e3⟩:=set4 hz0.out _ _ _ _ hW4
    rw [←hW4]
    refine bodyPost_ret (v:=.tuple #[.agg #[.int .i64 0,.int .i64 0,.int .i64 0,.int .i64 0],.bool false]) ?_ rfl ⟨?_,?_⟩
    ·clear hW4 hB4 hr0 hr1 hr2 hr3
     simp [results,Tryz.results256,go_sem,e0,e1,e2,e3]
    ·unfold get4
     rw [HOK.out]
     rfl
    ·exact hB4
set_option maxHeartbeats 1000000 in
theorem markGet_any (s:ByteArray) (w:World):Calls Tryz.prog 237 #[.string s] w (GetPost w s [6,6,6,2]):=by
 obtain ⟨a,ha⟩:∃ a,a=get4 s [6,6,6,2] 0:=⟨_,rfl⟩
 obtain ⟨b,hb⟩:∃ a,a=get4 s [6,6,6,2] 1:=⟨_,rfl⟩
 obtain ⟨c,hc⟩:∃ a,a=get4 s [6,6,6,2] 2:=⟨_,rfl⟩
 obtain ⟨d,hd⟩:∃ a,a=get4 s [6,6,6,2] 3:=⟨_,rfl⟩
 obtain ⟨o,ho⟩:∃ a,a=getOk s [6,6,6,2]:=⟨_,rfl⟩
 unfold GetPost
 rw [←ha,←hb,←hc,←hd,←ho]
 have hr:=row4 w 89
 have hb0:=(Below.refl w.heap.size w).alloc (Nat.le_refl _) (.cells #[.int .i64 0,.int .i64 0,.int .i64 0,.int .i64 0] 89)
 obtain ⟨W,hW⟩:∃ W,W=w.alloc (.cells #[.int .i64 0,.int .i64 0,.int .i64 0,.int .i64 0] 89):=⟨_,rfl⟩
 rw [←hW] at hr hb0
 have HA:=Lib.hid ha
 have HBB:=Lib.hid hb
 have HC:=Lib.hid hc
 have HD:=Lib.hid hd
 have HO:=Lib.hid ho
 have HR:=Lib.hid hr
 have HB0:=Lib.hid hb0
 have HW:=Lib.hid hW
 clear ha hb hc hd ho hr hb0 hW
 go_enter Tryz.func237,Tryz.ntmps237
 go_wp2_with fail
 rw [←HW.out]
 refine (markW_any _).mono ?_
 rintro e w1 ⟨v,rfl,hv,hb1⟩
 obtain ⟨va,vc,hve,hvr⟩:=id hv
 subst hve
 have HV:=Lib.hid hv
 have HB1:=Lib.hid hb1
 clear hv hvr hb1
 go_wp2_with fail
 refine (getE_any [6,6,6,2] wide_mark s _ _ HV.out).mono ?_
 rintro e w2 ⟨he,hb2⟩
 rw [←HA.out,←HBB.out,←HC.out,←HD.out,←HO.out] at he
 subst he
 have hb2':=below_on hb2 (below_on HB1.out HB0.out (Nat.le_refl _)) (Nat.le_refl _)
 have hr2:=(HR.out.of_block (HB1.out.block _ HR.out.lt)).of_block (hb2.block _ (Nat.lt_of_lt_of_le HR.out.lt HB1.out.size))
 have HB2:=Lib.hid hb2'
 have hr0:=hr2.cell (i:=0) (by decide)
 have hr1:=hr2.cell (i:=1) (by decide)
 have hr3:=hr2.cell (i:=2) (by decide)
 have hr4:=hr2.cell (i:=3) (by decide)
 have hf0:=hr2.frozen 0
 have hf1:=hr2.frozen 1
 have hf2:=hr2.frozen 2
 have hf3:=hr2.frozen 3
 have HR2:=Lib.hid hr2
 have hlt:=hr2.lt
 clear hb2 hb2' hr2
 go_wp2_with fail
 obtain ⟨W4,hW4⟩:∃ W,W=(((w2.setCell ⟨w.heap.size,0,none⟩ (.int .i64 a)).setCell ⟨w.heap.size,1,none⟩ (.int .i64 b)).setCell ⟨w.heap.size,2,none⟩ (.int .i64 c)).setCell ⟨w.heap.size,3,none⟩ (.int .i64 d):=⟨_,rfl⟩
 have hB4:=below_set4 HB2.out (Nat.le_refl _) hW4
 obtain ⟨e0,e1,e2,e3⟩:=set4 HR2.out _ _ _ _ hW4
 rw [←hW4]
 obtain ⟨W5,hW5⟩:∃ W,W=W4.alloc (.cells #[.int .i64 a,.int .i64 b,.int .i64 c,.int .i64 d] 196):=⟨_,rfl⟩
 have hl4:=World.block_lt_of_cell? _ _ e0
 have g0:W5.cell? ⟨w.heap.size,0,none⟩=some (.int .i64 a):=by rw [hW5,World.cell?_alloc_lt _ _ _ (World.block_lt_of_cell? _ _ e0)];exact e0
 have g1:W5.cell? ⟨w.heap.size,1,none⟩=some (.int .i64 b):=by rw [hW5,World.cell?_alloc_lt _ _ _ (World.block_lt_of_cell? _ _ e1)];exact e1
 have g2:W5.cell? ⟨w.heap.size,2,none⟩=some (.int .i64 c):=by rw [hW5,World.cell?_alloc_lt _ _ _ (World.block_lt_of_cell? _ _ e2)];exact e2
 have g3:W5.cell? ⟨w.heap.size,3,none⟩=some (.int .i64 d):=by rw [hW5,World.cell?_alloc_lt _ _ _ (World.block_lt_of_cell? _ _ e3)];exact e3
 have hB5:Below w.heap.size w W5:=by rw [hW5];exact hB4.alloc hB4.size _
 rw [←hW5]
 refine bodyPost_ret (v:=.tuple #[.agg #[.int .i64 a,.int .i64 b,.int .i64 c,.int .i64 d],.bool o]) ?_ rfl ⟨rfl,hB5⟩
 clear hW4 hW5 hB4 hB5 e0 e1 e2 e3 hr0 hr1 hr3 hr4 hf0 hf1 hf2 hf3
 simp [results,Tryz.results237,go_sem,g0,g1,g2,g3]
theorem bytesK_length (ws:List Nat) (xs:List Int):∀ k,(bytesK ws xs k).length=offK ws k
 | 0=>rfl
 | k+1=>by rw [bytesK,List.length_append,bytesK_length ws xs k,Oc.numB_length,offK]
theorem bytesK_at (ws:List Nat) (xs:List Int) (k:Nat):∀ j,k<j→((bytesK ws xs j).drop (offK ws k)).take (ws.getD k 0)=Oc.numB (ws.getD k 0) (xs.getD k 0).toNat
 | 0,h=>by omega
 | j+1,h=>by
  rcases Nat.lt_succ_iff_lt_or_eq.1 h with h|rfl
  ·have h1:=offK_mono ws (k+1) j h
   have h2:offK ws (k+1)=offK ws k+ws.getD k 0:=rfl
   have h3:=bytesK_length ws xs j
   rw [bytesK,List.drop_append_of_le_length (by omega),List.take_append_of_le_length (by rw [List.length_drop];omega)]
   exact bytesK_at ws xs k j h
  ·have h3:=bytesK_length ws xs k
   rw [bytesK,←h3,List.drop_left,List.take_of_length_le (by rw [Oc.numB_length];exact Nat.le_refl _)]
theorem fit_back {n:Nat} {x:Int} (h:Oc.FitN n x):((Oc.getN (Oc.numB n x.toNat):Nat):Int)=x:=by
 obtain ⟨h0,h1⟩:=h
 have h4:((256 ^ n:Nat):Int)=(256:Int) ^ n:=by rw [Int.natCast_pow];rfl
 rw [Oc.getN_numB n x.toNat (by rw [←h4] at h1;omega)]
 omega
theorem put_back {ws:List Nat} {xs:List Int} (h:fit4 ws xs=true):getOk (put4 ws xs) ws=true∧∀ k,k<4→get4 (put4 ws xs) ws k=xs.getD k 0:=by
 have e:put4 ws xs=⟨(bytesK ws xs 4).toArray⟩:=by unfold put4;rw [h];rfl
 have hz:getOk (put4 ws xs) ws=true:=by
  unfold getOk
  rw [e,Oc.size_of',bytesK_length]
  exact decide_eq_true rfl
 refine ⟨hz,fun k hk=>?_⟩
 unfold get4
 rw [if_pos hz]
 unfold numAt
 rw [e]
 show ((Oc.getN (List.take _ (List.drop _ (bytesK ws xs 4))):Nat):Int)=_
 rw [bytesK_at ws xs k 4 hk]
 exact fit_back (fit4_iff.1 h k hk)
end Go.Proofs.YtajmeimjaapagaaGreatDoor
