/- A part. -/
import Derived.Deep.DeepCutAuto
import Derived.Deep.RegionHeld3
import Derived.Test.YtajmeimjaapagaaGreatDoorDor28
set_option linter.unusedVariables false
set_option linter.unusedSimpArgs false
namespace Go.Proofs.YtajmeimjaapagaaGreatDoor
open Go.RowKit Go.Deep
def NRow (w:World) (base:Nat) (v:Value) (l:List Int):Prop:=w.ownsRow base 3 1 v l.length (l.map fun x=>.int .i64 x)
theorem NRow.form {w:World} {base:Nat} {v:Value} {l:List Int} (h:NRow w base v l):∃ a cap,v = .slice a l.length cap:=by
 rcases h.2 with ⟨rfl,h0⟩|⟨g,cap,cur,rfl,_⟩
 ·exact ⟨none,0,by rw [h0]⟩
 ·exact ⟨_,cap,rfl⟩
theorem NRow.cellAt {w:World} {base:Nat} {a:Option Addr} {n cap:Nat} {l:List Int} (h:NRow w base (.slice a n cap) l) {k:Nat} (hk:k<l.length):∃ g,a=some ⟨g,0,none⟩∧w.cell? ⟨g,k,none⟩=some (.int .i64 (l.getD k 0)):=by
 rcases h.2 with ⟨hv,h0⟩|⟨g,cap,cur,hv,_⟩
 ·omega
 ·cases hv
  refine ⟨g,rfl,?_⟩
  have h2:=World.ownsRow.cellAt h k (by omega)
  rw [h2,List.getElem?_map,List.getElem?_eq_getElem hk,List.getD_eq_getElem?_getD,List.getElem?_eq_getElem hk]
  rfl
def IdxIs (p:Int→Bool) (l:List Int) (r:Int):Prop:=(r = -1∧∀ x∈l,p x=false)∨(∃ k:Nat,r=(k:Int)∧k<l.length∧p (l.getD k 0)=true∧∀ j,j<k→p (l.getD j 0)=false)
def overP (M:PM) (a:Int):Bool:=!decide (stP M a=1)
set_option maxHeartbeats 1000000 in
set_option maxRecDepth 100000 in
theorem pindex_any {w:World} {sb m base:Nat} {M:PM} (h:PeI w sb m M) {v:Value} {l:List Int} (hv:NRow w base v l) (hw:∀ x∈l,(Lit.int .i64 x).wf=true) (hl:l.length≤1000000) :
 Calls Tryz.prog 93 #[v,.func (.func 56) #[.pointer (some ⟨sb,0,none⟩)] #[]] w fun e w'=>∃ r,e = .returned (.int .i64 r)∧IdxIs (overP M) l r∧w=w':=by
 obtain ⟨a,cap,rfl⟩:=hv.form
 have HCL:Hid (∀ k,k<l.length→∃ g,a=some ⟨g,0,none⟩∧w.cell? ⟨g,k,none⟩=some (.int .i64 (l.getD k 0))):=Lib.hid fun k hk=>hv.cellAt hk
 have HOV:Hid (∀ x,x∈l→Calls Tryz.prog 56 #[.pointer (some ⟨sb,0,none⟩),.int .i64 x] w fun e w'=>e = .returned (.bool (overP M x))∧w=w'):=Lib.hid fun x hx=>pover_any h x (hw x hx)
 obtain ⟨n,hn⟩:∃ n,n=l.length:=⟨_,rfl⟩
 have HN:=Lib.hid hn
 rw [←hn] at hl ⊢
 clear hn h hv hw
 go_enter Tryz.func93,Tryz.ntmps93
 go_wp2_with fail
 go_loopw [8] (fun i wr=>∃ k:Nat,k≤n∧i = .int .i64 (k:Int)∧(∀ j,j<k→overP M (l.getD j 0)=false)∧w=wr) (fun i _=>n - (intOf i).toNat)
 case atStart=>exact ⟨0,Nat.zero_le _,rfl,fun j hj=>absurd hj (Nat.not_lt_zero _),rfl⟩
 case round=>
  obtain ⟨k,hk,rfl,hb,rfl⟩:=hrel
  by_cases hlt:k<n
  ·obtain ⟨g,rfl,hc⟩:=HCL.out k (by rw [←HN.out];exact hlt)
   have hx:l.getD k 0∈l:=by
    rw [List.getD_eq_getElem?_getD,List.getElem?_eq_getElem (by rw [←HN.out];exact hlt)]
    exact List.getElem_mem _
   have hov:=HOV.out _ hx
   have HB:=Lib.hid hb
   obtain ⟨q,hq⟩:∃ q,q=overP M (l.getD k 0):=⟨_,rfl⟩
   rw [←hq] at hov
   obtain ⟨x,hxe⟩:∃ x,x=l.getD k 0:=⟨_,rfl⟩
   rw [←hxe] at hov hc
   have HQ:Hid (q=overP M (l.getD k 0)):=Lib.hid hq
   have HV:=Lib.hid hov
   clear hov hq hb hx hxe
   go_wp2_with fail
   refine HV.out.mono ?_
   rintro e w2 ⟨rfl,rfl⟩
   cases q with
   | true=>
    go_wp2_with fail
    go_ret
    exact ⟨_,rfl,.inr ⟨k,rfl,by rw [←HN.out];exact hlt,HQ.out.symm,HB.out⟩,rfl⟩
   | false=>
    go_wp2_with fail
    refine ⟨⟨k+1,by omega,by go_num,fun j hj=>?_,trivial⟩,by simp [intOf];omega⟩
    by_cases hjk:j=k
    ·rw [hjk];exact HQ.out.symm
    ·exact HB.out j (by omega)
  ·have hkn:k=n:=by omega
   have HB:=Lib.hid hb
   clear hb
   subst hkn
   go_wp2_with fail
   go_ret
   refine ⟨_,rfl,.inl ⟨rfl,fun x hx=>?_⟩,rfl⟩
   obtain ⟨j,hj,rfl⟩:=List.getElem_of_mem hx
   have:=HB.out j (by rw [HN.out];exact hj)
   rwa [List.getD_eq_getElem?_getD,List.getElem?_eq_getElem hj] at this
structure DelI (p:Int→Bool) (l d:List Int) (i j:Nat):Prop where
 len:d.length=l.length
 lt:i<j
 jl:j≤l.length
 low:d.take i=(l.take j).filter (fun x=>!p x)
 high:∀ k,i≤k→d.getD k 0=l.getD k 0
theorem DelI.start {p:Int→Bool} {l:List Int} {k:Nat} (hk:k<l.length) (hp:p (l.getD k 0)=true) (hb:∀ j,j<k→p (l.getD j 0)=false):DelI p l l k (k+1) where
 len:=rfl
 lt:=Nat.lt_succ_self _
 jl:=hk
 high _ _:=rfl
 low:=by
  have e:l.getD k 0=l[k]:=by rw [List.getD_eq_getElem?_getD,List.getElem?_eq_getElem hk];rfl
  rw [List.take_add_one,List.getElem?_eq_getElem hk,Option.toList_some,List.filter_append]
  have h1:(l.take k).filter (fun x=>!p x)=l.take k:=List.filter_eq_self.2 fun x hx=>by
   obtain ⟨j,hj,rfl⟩:=List.getElem_of_mem hx
   have hj2:j<k:=by rw [List.length_take] at hj;omega
   have h3:=hb j hj2
   rw [List.getD_eq_getElem?_getD,List.getElem?_eq_getElem (by omega)] at h3
   rw [List.getElem_take]
   simpa using h3
  rw [h1]
  rw [e] at hp
  simp [hp]
theorem DelI.skip {p:Int→Bool} {l d:List Int} {i j:Nat} (h:DelI p l d i j) (hj:j<l.length) (hp:p (l.getD j 0)=true):DelI p l d i (j+1) where
 len:=h.len
 lt:=by have:=h.lt;omega
 jl:=hj
 high:=h.high
 low:=by
  rw [h.low,List.take_add_one,List.getElem?_eq_getElem hj,Option.toList_some,List.filter_append]
  rw [List.getD_eq_getElem?_getD,List.getElem?_eq_getElem hj,Option.getD_some] at hp
  simp [hp]
theorem DelI.keep {p:Int→Bool} {l d:List Int} {i j:Nat} (h:DelI p l d i j) (hj:j<l.length) (hp:p (l.getD j 0)=false):DelI p l (d.set i (l.getD j 0)) (i+1) (j+1) where
 len:=by rw [List.length_set];exact h.len
 lt:=by have:=h.lt;omega
 jl:=hj
 high k hk:=by
  have:=h.high k (by omega)
  rw [List.getD_eq_getElem?_getD,List.getElem?_set_ne (by omega),←List.getD_eq_getElem?_getD]
  exact this
 low:=by
  have hi:i<d.length:=by have:=h.lt;have:=h.len;omega
  rw [List.take_add_one,List.getElem?_set_self hi,Option.toList_some,List.take_set_of_le (Nat.le_refl _),h.low,List.take_add_one,List.getElem?_eq_getElem hj,Option.toList_some,List.filter_append]
  rw [List.getD_eq_getElem?_getD,List.getElem?_eq_getElem hj,Option.getD_some] at hp ⊢
  simp [hp]
theorem DelI.done {p:Int→Bool} {l d:List Int} {i:Nat} (h:DelI p l d i l.length):d.take i=l.filter (fun x=>!p x)∧(l.filter (fun x=>!p x)).length=i:=by
 have h1:=h.low
 rw [List.take_length] at h1
 refine ⟨h1,?_⟩
 rw [←h1,List.length_take]
 have:=h.lt
 have:=h.len
 omega
set_option maxHeartbeats 2000000 in
set_option maxRecDepth 100000 in
theorem pdelete_any {w:World} {sb m base:Nat} {M:PM} (h:PeI w sb m M) {v:Value} {l:List Int} (hv:NRow w base v l) (hw:∀ x∈l,(Lit.int .i64 x).wf=true) (hl:l.length≤1000000) (hb1:sb<base) (hb2:m<base) :
 Calls Tryz.prog 53 #[v,.func (.func 56) #[.pointer (some ⟨sb,0,none⟩)] #[]] w fun e w'=>∃ v',e = .returned v'∧NRow w' base v' (l.filter fun x=>!overP M x)∧w.grownBy w' v.ownBlock:=by
 have hix:=pindex_any h hv hw hl
 have HIX:=Lib.hid hix
 clear hix
 rcases hv.2 with ⟨rfl,h0⟩|⟨g,cap,cur,rfl,hbg,hg,h1,h2,h3,h4⟩
 ·have hl0:l=[]:=by simpa using h0
  subst hl0
  have HV:=Lib.hid hv
  clear hv h hw hl h0
  go_enter Tryz.func53,Tryz.ntmps53
  go_wp2_with fail
  refine HIX.out.mono ?_
  rintro e w2 ⟨r,rfl,hr,rfl⟩
  have hr1:r = -1:=by
   rcases hr with ⟨h,_⟩|⟨k,_,hk,_⟩
   ·exact h
   ·simp at hk
  subst hr1
  go_wp2_with fail
  go_ret
  exact ⟨_,rfl,HV.out,grownBy_refl _ _⟩
 ·have HV:=Lib.hid hv
  have HW:=Lib.hid hw
  have H:=Lib.hid h
  have hsg:sb≠g:=by omega
  have hmg:m≠g:=by omega
  obtain ⟨n,hn⟩:∃ n,n=l.length:=⟨_,rfl⟩
  have HN:=Lib.hid hn
  rw [←hn] at hl h1 ⊢
  have h64:cap≤9223372036854775807:=by unfold maxLen at h2;omega
  have HCAP:Hid (cap≤maxLen):=Lib.hid h2
  have HBG:=Lib.hid hbg
  have HWG:=Lib.hid (Array.getElem?_eq_some_iff.1 hg).1
  rw [←hn] at HIX
  clear hv h hw hn hg h2 h3 h4 cur
  go_enter Tryz.func53,Tryz.ntmps53
  go_wp2_with fail
  refine HIX.out.mono ?_
  rintro e w2 ⟨r,rfl,hr,rfl⟩
  rcases hr with ⟨rfl,hall⟩|⟨k,rfl,hk,hp,hb⟩
  ·have HALL:=Lib.hid hall
   clear hall
   go_wp2_with fail
   go_ret
   refine ⟨_,rfl,?_,grownBy_refl _ _⟩
   have hf:l.filter (fun x=>!overP M x)=l:=List.filter_eq_self.2 fun x hx=>by rw [HALL.out x hx];rfl
   rw [hf]
   have:=HV.out
   rwa [←HN.out] at this
  ·have HD:=Lib.hid (DelI.start hk hp hb)
   rw [←HN.out] at hk
   have hne:((k:Int) == -1)=false:=beq_eq_false_iff_ne.2 (by omega)
   have hvv:=HV.out
   rw [←HN.out] at hvv
   have HV2:=Lib.hid hvv
   clear hp hb hvv
   go_wp2_with fail
   go_loopw [5,6,7] (fun s5 s6 s7 wr=>∃ (i j:Nat) (d:List Int),s5 = .int .i64 (i:Int)∧s6 = .int .i64 (j:Int)∧i<j∧j≤n∧Hid (DelI (overP M) l d i j)∧Hid (NRow wr base (.slice (some ⟨g,0,none⟩) n cap) d)∧Hid (PeI wr sb m M)∧Hid (w.grownBy wr (some g))) (fun _ s6 _ _=>n - (intOf s6).toNat)
   case atStart=>exact ⟨k,k+1,l,rfl,by go_num,by omega,by omega,HD,HV2,H,Lib.hid (grownBy_refl _ _)⟩
   case round=>
    obtain ⟨i,j,d,rfl,rfl,hij,hjn,HDI,HR,HP,HG⟩:=hrel
    by_cases hlt:j<n
    ·have hdl:d.length=n:=by rw [HDI.out.len,HN.out]
     have hjl:j<l.length:=by rw [←HN.out];exact hlt
     obtain ⟨g',eg,hc⟩:=HR.out.cellAt (k:=j) (by rw [hdl];exact hlt)
     obtain rfl:g=g':=by cases eg;rfl
     obtain ⟨g',eg,hci⟩:=HR.out.cellAt (k:=i) (by rw [hdl];omega)
     obtain rfl:g=g':=by cases eg;rfl
     have hfz:=World.ownsRow.frozenAt (by have:=HR.out;unfold NRow at this;rw [hdl] at this;exact this) i
     rw [HDI.out.high j (by omega)] at hc
     have hx:l.getD j 0∈l:=by
      rw [List.getD_eq_getElem?_getD,List.getElem?_eq_getElem hjl]
      exact List.getElem_mem _
     have hov:=pover_any HP.out _ (HW.out _ hx)
     obtain ⟨q,hq⟩:∃ q,q=overP M (l.getD j 0):=⟨_,rfl⟩
     have hov:Calls Tryz.prog 56 #[.pointer (some ⟨sb,0,none⟩),.int .i64 (l.getD j 0)] wr fun e w'=>e = .returned (.bool q)∧wr=w':=by rw [hq];exact hov
     have hst:=fun u=>World.ownsRow.stored (by have:=HR.out;unfold NRow at this;rw [hdl] at this;exact this) i (.int .i64 u)
     obtain ⟨x,hxe⟩:∃ x,x=l.getD j 0:=⟨_,rfl⟩
     rw [←hxe] at hov hc
     have HST:Hid (NRow (wr.setCell ⟨g,i,none⟩ (.int .i64 x)) base (.slice (some ⟨g,0,none⟩) n cap) (d.set i x)∧wr.grownBy (wr.setCell ⟨g,i,none⟩ (.int .i64 x)) (some g)):=Lib.hid (by
      refine ⟨?_,(hst x).2⟩
      have:=(hst x).1
      unfold NRow
      rw [List.length_set,hdl,List.map_set]
      exact this)
     have HX:=Lib.hid hxe
     have HQ:=Lib.hid hq
     have HOV:=Lib.hid hov
     have HJL:=Lib.hid hjl
     have hme:n - (j+1)<n - j:=by omega
     obtain ⟨old,hold⟩:∃ o,o=d.getD i 0:=⟨_,rfl⟩
     rw [←hold] at hci
     clear hxe hq hov hst hx hjl hdl hold HIX
     go_wp2_with fail
     refine HOV.out.mono ?_
     rintro e w3 ⟨rfl,rfl⟩
     cases q with
     | true=>
      have HD2:=Lib.hid (HDI.out.skip HJL.out HQ.out.symm)
      go_wp2_with fail
      exact ⟨⟨i,j+1,d,rfl,by go_num,by omega,by omega,HD2,HR,HP,HG⟩,by simp [intOf];omega⟩
     | false=>
      have hd2:=HDI.out.keep HJL.out HQ.out.symm
      rw [←HX.out] at hd2
      have HD2:=Lib.hid hd2
      clear hd2
      go_wp2_with fail
      have hg3:=HST.out.2
      exact ⟨⟨i+1,j+1,d.set i x,by go_num,by go_num,by omega,by omega,HD2,Lib.hid HST.out.1,Lib.hid (HP.out.chg (Chg.of_grown (S:=fun b=>b=g) hg3 (fun b hb _=>(Option.some.inj hb).symm)) hsg hmg),Lib.hid (grownBy_trans HG.out hg3)⟩,by simp [intOf];omega⟩
    ·have hjn2:j=n:=by omega
     subst hjn2
     have hdl:d.length=j:=by rw [HDI.out.len,HN.out]
     have hdi:=HDI.out
     rw [HN.out] at hdi
     obtain ⟨hd1,hd2⟩:=hdi.done
     have HD1:=Lib.hid hd1
     have HD2:=Lib.hid hd2
     have HR2:=HR.out.2
     obtain ⟨cu,hcu,hcs,hct⟩:∃ cu:Array Value,wr.heap[g]? = some (.cells cu 3 (0,0))∧cu.size=cap∧cu.toList.take j=d.map (fun x=>.int .i64 x):=by
      rcases HR2 with ⟨e,_⟩|⟨g2,cap2,cu,e,_,q1,q2,q3,q4,q5⟩
      ·cases e
      ·cases e
       rw [hdl,Nat.mul_one] at q5
       exact ⟨cu,q1,by omega,q5⟩
     have HCT:=Lib.hid hct
     have HCU:Hid (wr.heap[g]? = some (.cells cu.toList.toArray 3 (0,0))):=Lib.hid hcu
     have HCS:=Lib.hid hcs
     have hz:∀ w,(zeroValue 3).run Tryz.prog w = .ok (.int .i64 0) w:=fun w=>by kernel_rfl
     have HZ:=Lib.hid hz
     have hji:0<j - i:=by omega
     clear hdi hd1 hd2 hdl HR2 hct hcu hcs hz HIX
     go_wp2_with (with_reducible refine wpList_clear_row rfl (.tmp 38) 52 rfl 3 Tryz.underlying52 (.int .i64 0) HZ.out rfl rfl g i (j - i) (cap - i) hji rfl cu.toList 3 HCU.out ?c1 ?c2)
     case c1=>rw [Array.length_toList,HCS.out];omega
     case c2=>
      intro w4 HA4 HG4 HS4
      go_wp2_with fail
      go_ret
      refine ⟨_,rfl,?_,grownBy_trans HG.out HG4.out⟩
      have hlen:=HD2.out
      unfold NRow
      rw [hlen]
      refine ⟨by rw [List.length_map,hlen,Nat.mul_one],.inr ⟨g,cap,_,rfl,HBG.out,HA4.out,by omega,HCAP.out,?_,?_⟩⟩
      ·simp [splice]
       have:=HCS.out
       omega
      ·rw [←HD1.out,Nat.mul_one,List.map_take,←HCT.out,List.take_take,Nat.min_eq_left (by omega)]
       have hi:i≤cu.toList.length:=by rw [Array.length_toList,HCS.out];omega
       unfold splice
       simp only [List.append_assoc]
       rw [List.take_append_of_le_length (by rw [List.length_take];omega),List.take_take,Nat.min_self]
end Go.Proofs.YtajmeimjaapagaaGreatDoor
