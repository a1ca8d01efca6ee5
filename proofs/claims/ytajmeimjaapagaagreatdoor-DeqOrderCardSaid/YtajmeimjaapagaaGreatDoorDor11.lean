/- A part. -/
import Derived.Test.YtajmeimjaapagaaGreatDoorDor6
set_option linter.unusedVariables false
set_option linter.unusedSimpArgs false
namespace Go.Proofs.YtajmeimjaapagaaGreatDoor
open Go.RowKit Go.Deep
def Fr (n:Nat) (f:Nat→Value):Act:=⟨((List.range n).map f).toArray,[]⟩
theorem fr_get {n t:Nat} {f:Nat→Value} (h:t<n):(Fr n f).tmps.getD t undef=f t:=by
 simp [Fr,h]
theorem fr_some {n t:Nat} {f:Nat→Value} (h:t<n):(Fr n f).tmps[t]? = some (f t):=by
 simp [Fr,h]
theorem fr_put {n d:Nat} {f:Nat→Value} {v:Value} (_h:d<n):(Fr n f).put (some d) v=Fr n (fun t=>if t=d then v else f t):=by
 show (⟨((List.range n).map f).toArray.setIfInBounds d v,[]⟩:Act)=⟨((List.range n).map fun t=>if t=d then v else f t).toArray,[]⟩
 congr 1
 apply Array.ext
 ·simp
 ·intro i h1 h2
  simp only [List.size_toArray,List.length_map,List.length_range] at h2
  by_cases e:i=d
  ·subst e
   simp
  ·simp [Array.getElem_setIfInBounds,e,Ne.symm e]
section
variable {P:Program} {ops:Array Oper} {Q:Exit→Act→World→Prop}
def unl (l:Array Bool):Nat→Nat
 | 0=>0
 | m+1=>unl l m+if l.getD m true=false then 1 else 0
theorem unl_set {l:Array Bool} {i:Nat} (hi:l.getD i true=false):∀ m,unl (l.setIfInBounds i true) m+(if i<m then 1 else 0)=unl l m:=by
 have hil:i<l.size:=by
  rcases Nat.lt_or_ge i l.size with h|h
  ·exact h
  ·rw [Array.getD_eq_getD_getElem?,Array.getElem?_eq_none h] at hi
   cases hi
 have hget:∀ j,(l.setIfInBounds i true).getD j true=if j=i then true else l.getD j true:=fun j=>by
  rw [Array.getD_eq_getD_getElem?,Array.getElem?_setIfInBounds]
  by_cases e:j=i
  ·subst e;simp [hil]
  ·rw [if_neg (Ne.symm e),if_neg e,Array.getD_eq_getD_getElem?]
 intro m
 induction m with
 | zero=>rfl
 | succ m ih=>
  rw [unl,unl,hget]
  by_cases e:m=i
  ·subst e
   have h1:(if m<m+1 then 1 else 0)=1:=if_pos (by omega)
   have h2:(if m<m then 1 else 0)=0:=if_neg (by omega)
   rw [h2] at ih
   rw [if_pos rfl,if_neg (by decide),hi,if_pos rfl,h1]
   omega
  ·rw [if_neg e]
   have h1:(if i<m+1 then 1 else 0)=(if i<m then 1 else 0):=by
    by_cases hlt:i<m
    ·rw [if_pos hlt,if_pos (by omega)]
    ·rw [if_neg hlt,if_neg (by omega)]
   rw [h1]
   omega
theorem unl_zero {l:Array Bool}:∀ {m:Nat},unl l m=0→∀ j,j<m→l.getD j true=true
 | 0,_,j,hj=>absurd hj (by omega)
 | m+1,h,j,hj=>by
  rw [unl] at h
  by_cases e:j=m
  ·subst e
   cases hb:l.getD j true with
   | true=>rfl
   | false=>rw [hb,if_pos rfl] at h;omega
  ·exact unl_zero (m:=m) (by omega) j (by omega)
theorem ready_mem {md:Region.Mode} {l:Array Bool} {i:Nat} (h:i∈Region.ready md ops l) :
 ∃ o,ops[i]? = some o∧i<ops.size∧l.getD i true=false∧∀ e∈o.after,Region.binds md e=true→l.getD e.on false=true:=by
 unfold Region.ready at h
 rw [List.mem_filter,List.mem_range] at h
 obtain ⟨hlt,h⟩:=h
 rw [Bool.and_eq_true] at h
 obtain ⟨h1,h2⟩:=h
 cases ho:ops[i]? with
 | none=>rw [ho] at h2;cases h2
 | some o=>
  rw [ho] at h2
  refine ⟨o,rfl,hlt,by simpa using h1,fun e he hb=>?_⟩
  have h3:o.after.all (fun e=>!Region.binds md e || l.getD e.on false)=true:=h2
  have:=(Array.all_eq_true_iff_forall_mem.1 h3) e he
  rw [hb] at this
  simpa using this
theorem ready_all {md:Region.Mode} {l:Array Bool} (hback:∀ (i:Nat) o,ops[i]? = some o→∀ e∈o.after,Region.binds md e=true→e.on<i) (hl:l.size=ops.size) (h:Region.ready md ops l=[]):∀ i,i<ops.size→l.getD i true=true:=by
 intro i
 induction i using Nat.strongRecOn with
 | _ i ih=>
  intro hi
  cases hb:l.getD i true with
  | true=>rfl
  | false=>
   exfalso
   have hm:i∈Region.ready md ops l:=by
    unfold Region.ready
    rw [List.mem_filter,List.mem_range]
    refine ⟨hi,?_⟩
    rw [hb,Array.getElem?_eq_getElem hi]
    show (ops[i].after.all fun e=>!Region.binds md e || l.getD e.on false)=true
    rw [Array.all_eq_true_iff_forall_mem]
    intro e he
    cases hbd:Region.binds md e with
    | false=>rfl
    | true=>
    have hlt:=hback i ops[i] (Array.getElem?_eq_getElem hi) e he hbd
    have h1:=ih e.on hlt (by omega)
    have h2:l.getD e.on false=true:=by
     rw [Array.getD_eq_getD_getElem?,Array.getElem?_eq_getElem (by omega)] at h1 ⊢
     exact h1
    rw [h2]
    simp
   rw [h] at hm
   cases hm
theorem wpAny_inv {md:Region.Mode} (Inv:Array Bool→Act→World→Prop)
 (step:∀ l a w i o,l.size=ops.size→Inv l a w→ops[i]? = some o→(∀ e∈o.after,Region.binds md e=true→l.getD e.on false=true)→l.getD i true=false→wpOp P ops Q i (Inv (l.setIfInBounds i true)) a w)
 (done:∀ l a w,l.size=ops.size→Inv l a w→Region.ready md ops l=[]→Q .normal a w) :
 ∀ fuel l a w,l.size=ops.size→unl l ops.size≤fuel→Inv l a w→wpAny P md ops Q fuel l a w:=by
 intro fuel
 induction fuel with
 | zero=>
  intro l a w hl hu hi
  have hr:Region.ready md ops l=[]:=by
   apply List.eq_nil_iff_forall_not_mem.2
   intro i hm
   obtain ⟨o,_,hlt,hf,_⟩:=ready_mem hm
   rw [unl_zero (by omega) i hlt] at hf
   cases hf
  exact ⟨hr,done l a w hl hi hr⟩
 | succ fuel ih=>
  intro l a w hl hu hi
  refine ⟨fun hr=>done l a w hl hi hr,fun i hm=>?_⟩
  obtain ⟨o,ho,hlt,hf,he⟩:=ready_mem hm
  refine wpOp_mono (fun a' w' h'=>ih _ a' w' (by simpa using hl) ?_ h') (step l a w i o hl hi ho he hf)
  have:=unl_set hf ops.size
  rw [if_pos hlt] at this
  omega
def opsOk (n:Nat) (ops:Array Oper):Bool:=
 (List.range ops.size).all fun i=>match ops[i]? with
  | none=>true
  | some o=>o.after.all (fun e=>!Region.binds .any e || e.on<i) && (match o.dst with
   | none=>true
   | some d=>d<n && (List.range i).all fun j=>match ops[j]? with
    | none=>true
    | some o'=>o'.dst != some d)
def dstFree (ops:Array Oper) (t:Nat):Bool:=ops.all fun o=>o.dst != some t
def waits (o:Oper) (j:Nat):Bool:=o.after.toList.any fun e=>Region.binds .any e && e.on == j
theorem opsOk_at {n:Nat} (h:opsOk n ops=true) {i:Nat} {o:Oper} (ho:ops[i]? = some o) :
 (∀ e∈o.after,Region.binds .any e=true→e.on<i)∧∀ d,o.dst=some d→d<n∧∀ j o',j<i→ops[j]? = some o'→o'.dst≠some d:=by
 have hi:i<ops.size:=(Array.getElem?_eq_some_iff.1 ho).1
 have h1:=(List.all_eq_true.1 h) i (List.mem_range.2 hi)
 simp only [ho,Bool.and_eq_true] at h1
 obtain ⟨h1,h2⟩:=h1
 refine ⟨fun e he hb=>by have:=(Array.all_eq_true_iff_forall_mem.1 h1) e he;rw [hb] at this;simpa using this,fun d hd=>?_⟩
 simp only [hd,Bool.and_eq_true,decide_eq_true_eq] at h2
 refine ⟨h2.1,fun j o' hj ho'=>?_⟩
 have h3:=(List.all_eq_true.1 h2.2) j (List.mem_range.2 hj)
 simp only [ho'] at h3
 simpa using h3
theorem opsOk_once {n:Nat} (h:opsOk n ops=true) {i j:Nat} {o o':Oper} {d:Nat} (ho:ops[i]? = some o) (ho':ops[j]? = some o') (hd:o.dst=some d) (hd':o'.dst=some d):i=j:=by
 rcases Nat.lt_trichotomy i j with hij|hij|hij
 ·exact absurd hd (((opsOk_at h ho').2 d hd').2 i o hij ho)
 ·exact hij
 ·exact absurd hd' (((opsOk_at h ho).2 d hd).2 j o' hij ho')
theorem region_inv {id n:Nat} {f0:Nat→Value} {w0:World} (hm:P.follows .mixedOrders=true) (hok:opsOk n ops=true)
 (R:Nat→Value→World→Prop) (G:World→Prop) (Gr:World→World→Prop)
 (hrefl:∀ w,Gr w w) (hst:∀ i v w w',Gr w w'→R i v w→R i v w') (h0:G w0.drew)
 (step:∀ i o,ops[i]? = some o→∀ f w,G w→(∀ t,dstFree ops t=true→f t=f0 t)→(∀ j o' d,ops[j]? = some o'→o'.dst=some d→waits o j=true→R j (f d) w) →
  if Region.wanted o (yielded ops (Fr n f).tmps)=true then ∀ K:Act→World→Prop,(∀ v w',R i v w'→G w'→Gr w w'→K ((Fr n f).put o.dst v) w')→o.wp P (Fr n f) w K Q else R i undef w)
 (done:∀ f w,G w→(∀ t,dstFree ops t=true→f t=f0 t)→(∀ i o d,ops[i]? = some o→o.dst=some d→R i (f d) w)→Q .normal (Fr n f) w) :
 (Code.region id ops true).wp P Q (Fr n f0) w0:=by
 have hback:∀ (i:Nat) o,ops[i]? = some o→∀ e∈o.after,Region.binds .any e=true→e.on<i:=fun i o ho=>(opsOk_at hok ho).1
 refine wp_region_any hm ?_
 refine wpAny_inv (fun l a w=>∃ f,a=Fr n f∧G w∧(∀ t,dstFree ops t=true→f t=f0 t)∧∀ i o d,ops[i]? = some o→o.dst=some d→l.getD i true=true→R i (f d) w) ?_ ?_ _ _ _ _ (by simp) ?_ ⟨f0,rfl,h0,fun _ _=>rfl,?_⟩
 ·rintro l a w i o hl ⟨f,rfl,hG,hfr,hR⟩ ho he hf
  have hp:∀ j o' d,ops[j]? = some o'→o'.dst=some d→waits o j=true→R j (f d) w:=fun j o' d ho' hd hw=>by
   obtain ⟨e,hem',hb⟩:=List.any_eq_true.1 hw
   have hem:e∈o.after:=by simpa using hem'
   rw [Bool.and_eq_true,beq_iff_eq] at hb
   obtain ⟨hb,rfl⟩:=hb
   refine hR _ o' d ho' hd ?_
   have hj:e.on<ops.size:=(Array.getElem?_eq_some_iff.1 ho').1
   have:=he e hem hb
   rw [Array.getD_eq_getD_getElem?,Array.getElem?_eq_getElem (by omega)] at this ⊢
   exact this
  have hs:=step i o ho f w hG hfr hp
  have hil:i<l.size:=by have:=(Array.getElem?_eq_some_iff.1 ho).1;omega
  have next:∀ v w',R i v w'→G w'→Gr w w'→∃ f',(Fr n f).put o.dst v=Fr n f'∧G w'∧(∀ t,dstFree ops t=true→f' t=f0 t)∧∀ i' o' d,ops[i']? = some o'→o'.dst=some d→(l.setIfInBounds i true).getD i' true=true→R i' (f' d) w':=by
   intro v w' hv hG' hg
   cases hd:o.dst with
   | none=>
    refine ⟨f,rfl,hG',hfr,fun i' o' d ho' hd' hl'=>?_⟩
    have hne:i'≠i:=by rintro rfl;rw [ho] at ho';injection ho' with ho';rw [ho',hd'] at hd;cases hd
    rw [Array.getD_eq_getD_getElem?,Array.getElem?_setIfInBounds,if_neg (Ne.symm hne),←Array.getD_eq_getD_getElem?] at hl'
    exact hst _ _ _ _ hg (hR i' o' d ho' hd' hl')
   | some d0=>
    have hdn:=((opsOk_at hok ho).2 d0 hd).1
    refine ⟨_,fr_put hdn,hG',fun t ht=>?_,fun i' o' d ho' hd' hl'=>?_⟩
    ·have hne:t≠d0:=by
      rintro rfl
      have:=(Array.all_eq_true_iff_forall_mem.1 ht) o (Array.mem_of_getElem? ho)
      rw [hd] at this
      simp at this
     show (if t=d0 then v else f t)=f0 t
     rw [if_neg hne]
     exact hfr t ht
    ·show R i' (if d=d0 then v else f d) w'
     by_cases e:i'=i
     ·subst e
      rw [ho] at ho'
      injection ho' with ho'
      rw [←ho',hd] at hd'
      injection hd' with hd'
      rw [if_pos hd'.symm]
      exact hv
     ·have hne:d≠d0:=by
       rintro rfl
       exact e (opsOk_once hok ho' ho hd' hd)
      rw [if_neg hne]
      rw [Array.getD_eq_getD_getElem?,Array.getElem?_setIfInBounds,if_neg (Ne.symm e),←Array.getD_eq_getD_getElem?] at hl'
      exact hst _ _ _ _ hg (hR i' o' d ho' hd' hl')
  unfold wpOp
  rw [ho]
  show if Region.wanted o (yielded ops (Fr n f).tmps)=true then _ else _
  split
  ·rename_i hw
   rw [if_pos hw] at hs
   exact .inl (hs _ fun v w' hv hG' hg=>next v w' hv hG' hg)
  ·rename_i hw
   rw [if_neg hw] at hs
   exact next undef w hs hG (hrefl w)
 ·rintro l a w hl ⟨f,rfl,hG,hfr,hR⟩ hr
  exact done f w hG hfr fun i o d ho hd=>hR i o d ho hd (ready_all hback hl hr i (Array.getElem?_eq_some_iff.1 ho).1)
 ·have h:∀ m,unl (Array.replicate ops.size false) m≤m:=by
   intro m
   induction m with
   | zero=>exact Nat.le_refl _
   | succ m ih=>rw [unl];split<;>omega
  exact h _
 ·intro i o d ho _ hl
  have hi:=(Array.getElem?_eq_some_iff.1 ho).1
  rw [Array.getD_eq_getD_getElem?,Array.getElem?_replicate,if_pos hi] at hl
  cases hl
theorem fr_of {n:Nat} {a:Act} (hs:a.tmps.size=n) (hd:a.defers=[]):a=Fr n (fun t=>a.tmps.getD t undef):=by
 obtain ⟨t,d⟩:=a
 simp only at hs hd
 subst hd
 subst hs
 show (⟨t,[]⟩:Act)=⟨((List.range t.size).map fun i=>t.getD i undef).toArray,[]⟩
 congr 1
 apply Array.ext
 ·simp
 ·intro i h1 h2
  simp [h1]
theorem fr_eval (n t:Nat) (f:Nat→Value):(Fr n f).eval (.tmp t)=if t<n then f t else undef:=by
 show (Fr n f).tmps.getD t undef=_
 by_cases h:t<n
 ·rw [if_pos h,fr_get h]
 ·rw [if_neg h]
  simp [Fr,h]
def StepAt (P:Program) (ops:Array Oper) (Q:Exit→Act→World→Prop) (n:Nat) (a0:Act) (R:Nat→Value→World→Prop) (G:World→Prop) (Gr:World→World→Prop) (i:Nat) (o:Oper):Prop:=
 ∀ f w,G w→(∀ t,dstFree ops t=true→f t=a0.tmps.getD t undef)→(∀ j o' d,ops[j]? = some o'→o'.dst=some d→waits o j=true→R j (f d) w) →
  if Region.wanted o (yielded ops (Fr n f).tmps)=true then ∀ K:Act→World→Prop,(∀ v w',R i v w'→G w'→Gr w w'→K ((Fr n f).put o.dst v) w')→o.wp P (Fr n f) w K Q else R i undef w
theorem StepAt.plain {n:Nat} {a0:Act} {R:Nat→Value→World→Prop} {G:World→Prop} {Gr:World→World→Prop} {i:Nat} {o:Oper} (hg:o.guard=none)
 (h:∀ f w,G w→(∀ t,dstFree ops t=true→f t=a0.tmps.getD t undef)→(∀ j o' d,ops[j]? = some o'→o'.dst=some d→waits o j=true→R j (f d) w) →
  ∀ K:Act→World→Prop,(∀ v w',R i v w'→G w'→Gr w w'→K ((Fr n f).put o.dst v) w')→o.wp P (Fr n f) w K Q):StepAt P ops Q n a0 R G Gr i o:=by
 intro f w hG hfr hp
 rw [if_pos (by simp [Region.wanted,hg])]
 exact h f w hG hfr hp
def AllAt (p:Nat→Oper→Prop):Nat→List Oper→Prop
 | _,[]=>True
 | i,o :: l=>p i o∧AllAt p (i+1) l
theorem AllAt.at_ {p:Nat→Oper→Prop}:∀ {l:List Oper} {k i:Nat} {o:Oper},AllAt p k l→l[i]? = some o→p (k+i) o
 | [],_,_,_,_,h=>by simp at h
 | a :: l,k,0,o,h,ho=>by
  simp only [List.getElem?_cons_zero,Option.some.injEq] at ho
  subst ho
  exact h.1
 | a :: l,k,i+1,o,h,ho=>by
  rw [List.getElem?_cons_succ] at ho
  have:=AllAt.at_ h.2 ho
  rwa [Nat.add_assoc,Nat.add_comm 1] at this
theorem fr_opt (n t:Nat) (f:Nat→Value):(Fr n f).tmps[t]?.getD undef=if t<n then f t else undef:=by
 by_cases h:t<n
 ·rw [if_pos h,fr_some h]
  rfl
 ·rw [if_neg h]
  simp [Fr,h]
theorem region_inv' {id n:Nat} {a0:Act} {w0:World} (hs:a0.tmps.size=n) (hd:a0.defers=[]) (hm:P.follows .mixedOrders=true) (hok:opsOk n ops=true)
 (R:Nat→Value→World→Prop) (G:World→Prop) (Gr:World→World→Prop)
 (hrefl:∀ w,Gr w w) (hst:∀ i v w w',Gr w w'→R i v w→R i v w') (h0:G w0.drew)
 (steps:AllAt (StepAt P ops Q n a0 R G Gr) 0 ops.toList)
 (done:∀ f w,G w→(∀ t,dstFree ops t=true→f t=a0.tmps.getD t undef)→(∀ i o d,ops[i]? = some o→o.dst=some d→R i (f d) w)→Q .normal (Fr n f) w) :
 (Code.region id ops true).wp P Q a0 w0:=by
 have h:=region_inv (id:=id) (n:=n) (f0:=fun t=>a0.tmps.getD t undef) (w0:=w0) (Q:=Q) hm hok R G Gr hrefl hst h0 (fun i o ho=>by
  have:=steps.at_ (i:=i) (o:=o) (by simpa using ho)
  rwa [Nat.zero_add] at this) done
 rw [←fr_of hs hd] at h
 exact h
end
section
variable {P:Program} {ops:Array Oper} {Q:Exit→Act→World→Prop}
def reach (ops:Array Oper):Nat→Nat→Nat→Bool
 | 0,_,_=>false
 | n+1,i,j=>match ops[i]? with
  | none=>false
  | some o=>o.after.toList.any fun e=>Region.binds .any e && (e.on == j || reach ops n e.on j)
def Closed (ops:Array Oper) (l:Array Bool):Prop:=∀ i o,ops[i]? = some o→l.getD i false=true→∀ e∈o.after,Region.binds .any e=true→l.getD e.on false=true
theorem reach_done {l:Array Bool} (h:Closed ops l):∀ n i j,reach ops n i j=true→l.getD i false=true→l.getD j false=true
 | 0,_,_,h',_=>by cases h'
 | n+1,i,j,h',hi=>by
  unfold reach at h'
  split at h'
  ·cases h'
  ·rename_i o ho
   obtain ⟨e,he,hb⟩:=List.any_eq_true.1 h'
   rw [Bool.and_eq_true,Bool.or_eq_true,beq_iff_eq] at hb
   have hd:=h i o ho hi e (by simpa using he) hb.1
   rcases hb.2 with rfl|hb
   ·exact hd
   ·exact reach_done h n e.on j hb hd
theorem reach_ready {l:Array Bool} (h:Closed ops l) {n i j:Nat} {o:Oper} (ho:ops[i]? = some o) (hr:∀ e∈o.after,Region.binds .any e=true→l.getD e.on false=true) (h':reach ops n i j=true):l.getD j false=true:=by
 cases n with
 | zero=>cases h'
 | succ n=>
  unfold reach at h'
  rw [ho] at h'
  obtain ⟨e,he,hb⟩:=List.any_eq_true.1 h'
  rw [Bool.and_eq_true,Bool.or_eq_true,beq_iff_eq] at hb
  have hd:=hr e (by simpa using he) hb.1
  rcases hb.2 with rfl|hb
  ·exact hd
  ·exact reach_done h n e.on j hb hd
def chain (ops:Array Oper) (n:Nat) (cs:List Nat):Bool:=
 (List.range cs.length).all fun k=>cs.getD k 0<ops.size && (List.range k).all fun j=>reach ops n (cs.getD k 0) (cs.getD j 0) && cs.getD k 0 != cs.getD j 0
theorem chain_at {n:Nat} {cs:List Nat} (h:chain ops n cs=true) {k:Nat} (hk:k<cs.length):cs.getD k 0<ops.size∧∀ j,j<k→reach ops n (cs.getD k 0) (cs.getD j 0)=true∧cs.getD k 0≠cs.getD j 0:=by
 have h1:=(List.all_eq_true.1 h) k (List.mem_range.2 hk)
 rw [Bool.and_eq_true,decide_eq_true_eq] at h1
 refine ⟨h1.1,fun j hj=>?_⟩
 have h2:=(List.all_eq_true.1 h1.2) j (List.mem_range.2 hj)
 rw [Bool.and_eq_true] at h2
 exact ⟨h2.1,by simpa using h2.2⟩
def StepPh (P:Program) (ops:Array Oper) (Q:Exit→Act→World→Prop) (n:Nat) (fuel:Nat) (cs:List Nat) (a0:Act) (R:Nat→Value→Prop) (G:Nat→(Nat→Value)→World→Prop) (i:Nat) (o:Oper):Prop:=
 ∀ f w p,G p f w→(∀ k,k<cs.length→reach ops fuel i (cs.getD k 0)=true→k<p)→(∀ k,k<cs.length→(reach ops fuel (cs.getD k 0) i=true∨cs.getD k 0=i)→p≤k) →
  (∀ t,dstFree ops t=true→f t=a0.tmps.getD t undef)→(∀ j o' d,ops[j]? = some o'→o'.dst=some d→waits o j=true→R j (f d)) →
  o.guard=none∧∀ K:Act→World→Prop,(∀ v w' f',(Fr n f).put o.dst v=Fr n f'→(∀ d,o.dst=some d→f'=fun t=>if t=d then v else f t)→(o.dst=none→f'=f)→(o.dst.isSome=true→R i v)→G (if cs.contains i then p+1 else p) f' w'→K (Fr n f') w')→o.wp P (Fr n f) w K Q
theorem getD_bool (l:Array Bool) (i:Nat) (h:i<l.size) (a b:Bool):l.getD i a=l.getD i b:=by
 rw [Array.getD_eq_getD_getElem?,Array.getD_eq_getD_getElem?,Array.getElem?_eq_getElem h]
 rfl
theorem getD_set (l:Array Bool) (i j:Nat) (h:i<l.size):(l.setIfInBounds i true).getD j false=if j=i then true else l.getD j false:=by
 rw [Array.getD_eq_getD_getElem?,Array.getElem?_setIfInBounds]
 by_cases e:i=j
 ·subst e;simp [h]
 ·rw [if_neg e,if_neg (Ne.symm e),Array.getD_eq_getD_getElem?]
theorem region_ph {id n:Nat} {a0:Act} {w0:World} (fuel:Nat) (cs:List Nat) (hs:a0.tmps.size=n) (hd:a0.defers=[]) (hm:P.follows .mixedOrders=true) (hok:opsOk n ops=true) (hch:chain ops fuel cs=true)
 (R:Nat→Value→Prop) (G:Nat→(Nat→Value)→World→Prop)
 (h0:G 0 (fun t=>a0.tmps.getD t undef) w0.drew)
 (steps:AllAt (StepPh P ops Q n fuel cs a0 R G) 0 ops.toList)
 (done:∀ f w,G cs.length f w→(∀ t,dstFree ops t=true→f t=a0.tmps.getD t undef)→(∀ i o d,ops[i]? = some o→o.dst=some d→R i (f d))→Q .normal (Fr n f) w) :
 (Code.region id ops true).wp P Q a0 w0:=by
 have hback:∀ (i:Nat) o,ops[i]? = some o→∀ e∈o.after,Region.binds .any e=true→e.on<i:=fun i o ho=>(opsOk_at hok ho).1
 refine wp_region_any hm ?_
 refine wpAny_inv (fun l a w=>∃ f p,a=Fr n f∧G p f w∧p≤cs.length∧(∀ k,k<cs.length→(l.getD (cs.getD k 0) false=true↔k<p))∧Closed ops l ∧
  (∀ t,dstFree ops t=true→f t=a0.tmps.getD t undef)∧∀ i o d,ops[i]? = some o→o.dst=some d→l.getD i true=true→R i (f d)) ?_ ?_ _ _ _ _ (by simp) ?_ ⟨_,0,fr_of hs hd,h0,Nat.zero_le _,?_,?_,fun _ _=>rfl,?_⟩
 ·rintro l a w i o hl ⟨f,p,rfl,hG,hp,hcs,hcl,hfr,hR⟩ ho he hf
  have hil:i<l.size:=by have:=(Array.getElem?_eq_some_iff.1 ho).1;omega
  have hf':l.getD i false=false:=by rw [getD_bool l i hil false true];exact hf
  have hpre:∀ j o' d,ops[j]? = some o'→o'.dst=some d→waits o j=true→R j (f d):=fun j o' d ho' hd hw=>by
   obtain ⟨e,hem',hb⟩:=List.any_eq_true.1 hw
   have hem:e∈o.after:=by simpa using hem'
   rw [Bool.and_eq_true,beq_iff_eq] at hb
   obtain ⟨hb,rfl⟩:=hb
   refine hR _ o' d ho' hd ?_
   have hj:e.on<ops.size:=(Array.getElem?_eq_some_iff.1 ho').1
   rw [getD_bool l e.on (by omega) true false]
   exact he e hem hb
  have hup:∀ k,k<cs.length→reach ops fuel i (cs.getD k 0)=true→k<p:=fun k hk hr=>(hcs k hk).1 (reach_ready hcl ho he hr)
  have hdn:∀ k,k<cs.length→(reach ops fuel (cs.getD k 0) i=true∨cs.getD k 0=i)→p≤k:=fun k hk hr=>by
   rcases Nat.lt_or_ge k p with hlt|hge
   ·exfalso
    have hdone:=(hcs k hk).2 hlt
    rcases hr with hr|hr
    ·rw [reach_done hcl fuel _ _ hr hdone] at hf';cases hf'
    ·rw [hr,hf'] at hdone;cases hdone
   ·exact hge
  have hst:=steps.at_ (i:=i) (o:=o) (by simpa using ho)
  rw [Nat.zero_add] at hst
  obtain ⟨hgd,hwp⟩:=hst f w p hG hup hdn hfr hpre
  unfold wpOp
  rw [ho]
  show if Region.wanted o (yielded ops (Fr n f).tmps)=true then _ else _
  rw [if_pos (by simp [Region.wanted,hgd])]
  refine .inl (hwp _ fun v w' f' _ hf1 hf2 hRi hG'=>⟨f',_,rfl,hG',?_,?_,?_,?_,?_⟩)
  ·by_cases hc:cs.contains i=true
   ·rw [if_pos hc]
    obtain ⟨k,hk⟩:=List.getElem?_of_mem (List.contains_iff_mem.1 hc)
    have hkl:=(List.getElem?_eq_some_iff.1 hk).1
    have:=hdn k hkl (.inr (by rw [List.getD_eq_getElem?_getD,hk];rfl))
    omega
   ·rw [if_neg hc];exact hp
  ·intro k hk
   rw [getD_set l i _ hil]
   by_cases hc:cs.contains i=true
   ·rw [if_pos hc]
    obtain ⟨k0,hk0⟩:=List.getElem?_of_mem (List.contains_iff_mem.1 hc)
    have hkl:=(List.getElem?_eq_some_iff.1 hk0).1
    have hk0':cs.getD k0 0=i:=by rw [List.getD_eq_getElem?_getD,hk0];rfl
    have hpk:p=k0:=by
     have h1:=hdn k0 hkl (.inr hk0')
     rcases Nat.eq_or_lt_of_le h1 with h2|h2
     ·exact h2
     ·exfalso
      have hr:=(chain_at hch hkl).2 p h2
      rw [hk0'] at hr
      have:=hup p (by omega) hr.1
      omega
    subst hpk
    by_cases e:cs.getD k 0=i
    ·rw [if_pos e]
     have:k=p:=by
      rcases Nat.lt_trichotomy k p with h3|h3|h3
      ·exact absurd (hk0'.trans e.symm) ((chain_at hch hkl).2 k h3).2
      ·exact h3
      ·exact absurd (e.trans hk0'.symm) ((chain_at hch hk).2 p h3).2
     exact ⟨fun _=>by omega,fun _=>rfl⟩
    ·rw [if_neg e,hcs k hk]
     constructor
     ·intro h3;omega
     ·intro h3
      rcases Nat.eq_or_lt_of_le (Nat.le_of_lt_succ h3) with h4|h4
      ·exact absurd (h4▸hk0') e
      ·exact h4
   ·rw [if_neg hc]
    have e:cs.getD k 0≠i:=by
     rintro rfl
     refine hc (List.contains_iff_mem.2 ?_)
     rw [List.getD_eq_getElem?_getD,List.getElem?_eq_getElem hk]
     exact List.getElem_mem hk
    rw [if_neg e]
    exact hcs k hk
  ·intro j o' ho' hj e hem hb
   rw [getD_set l i _ hil] at hj ⊢
   by_cases ej:e.on=i
   ·rw [if_pos ej]
   ·rw [if_neg ej]
    by_cases eji:j=i
    ·subst eji
     rw [ho] at ho'
     cases ho'
     exact he e hem hb
    ·rw [if_neg eji] at hj
     exact hcl j o' ho' hj e hem hb
  ·intro t ht
   cases hdst:o.dst with
   | none=>rw [hf2 hdst];exact hfr t ht
   | some d0=>
    rw [hf1 d0 hdst]
    have hne:t≠d0:=by
     rintro rfl
     have:=(Array.all_eq_true_iff_forall_mem.1 ht) o (Array.mem_of_getElem? ho)
     rw [hdst] at this
     simp at this
    show (if t=d0 then v else f t)=_
    rw [if_neg hne]
    exact hfr t ht
  ·intro i' o' d ho' hd' hl'
   by_cases e:i'=i
   ·subst e
    rw [ho] at ho'
    cases ho'
    rw [hf1 d hd']
    show R i' (if d=d then v else f d)
    rw [if_pos rfl]
    exact hRi (by rw [hd'];rfl)
   ·rw [Array.getD_eq_getD_getElem?,Array.getElem?_setIfInBounds,if_neg (Ne.symm e),←Array.getD_eq_getD_getElem?] at hl'
    have hold:=hR i' o' d ho' hd' hl'
    cases hdst:o.dst with
    | none=>rw [hf2 hdst];exact hold
    | some d0=>
     rw [hf1 d0 hdst]
     have hne:d≠d0:=by
      rintro rfl
      exact e (opsOk_once hok ho' ho hd' hdst)
     show R i' (if d=d0 then v else f d)
     rw [if_neg hne]
     exact hold
 ·rintro l a w hl ⟨f,p,rfl,hG,hp,hcs,hcl,hfr,hR⟩ hr
  have hall:=ready_all hback hl hr
  have hpl:p=cs.length:=by
   rcases Nat.eq_or_lt_of_le hp with h1|h1
   ·exact h1
   ·exfalso
    have hlt:=(chain_at hch h1).1
    have h2:=hall _ hlt
    rw [getD_bool l _ (by omega) true false] at h2
    have:=(hcs p h1).1 h2
    omega
  subst hpl
  exact done f w hG hfr fun i o d ho hd=>hR i o d ho hd (hall i (Array.getElem?_eq_some_iff.1 ho).1)
 ·have h:∀ m,unl (Array.replicate ops.size false) m≤m:=by
   intro m
   induction m with
   | zero=>exact Nat.le_refl _
   | succ m ih=>rw [unl];split<;>omega
  exact h _
 ·intro k hk
  have hlt:=(chain_at hch hk).1
  rw [Array.getD_eq_getD_getElem?,Array.getElem?_replicate,if_pos hlt]
  simp
 ·intro i o ho hi
  have hlt:=(Array.getElem?_eq_some_iff.1 ho).1
  rw [Array.getD_eq_getD_getElem?,Array.getElem?_replicate,if_pos hlt] at hi
  cases hi
 ·intro i o d ho _ hl
  have hi:=(Array.getElem?_eq_some_iff.1 ho).1
  rw [Array.getD_eq_getD_getElem?,Array.getElem?_replicate,if_pos hi] at hl
  cases hl
def upd (f:Nat→Value):Option Nat→Value→Nat→Value
 | none,_=>f
 | some d,v=>fun t=>if t=d then v else f t
theorem StepPh.reg {n fuel:Nat} {cs:List Nat} {a0:Act} {R:Nat→Value→Prop} {G:Nat→(Nat→Value)→World→Prop} {i:Nat} {o:Oper} (hg:o.guard=none) (hi:cs.contains i=false) (hd:∀ d,o.dst=some d→d<n)
 (h:∀ f w p,G p f w→(∀ k,k<cs.length→reach ops fuel i (cs.getD k 0)=true→k<p)→(∀ k,k<cs.length→(reach ops fuel (cs.getD k 0) i=true∨cs.getD k 0=i)→p≤k) →
  (∀ t,dstFree ops t=true→f t=a0.tmps.getD t undef)→(∀ j o' d,ops[j]? = some o'→o'.dst=some d→waits o j=true→R j (f d)) →
  ∀ K:Act→World→Prop,(∀ v w',R i v→G p (upd f o.dst v) w'→K ((Fr n f).put o.dst v) w')→o.wp P (Fr n f) w K Q):StepPh P ops Q n fuel cs a0 R G i o:=by
 intro f w p hG hup hdn hfr hp
 refine ⟨hg,fun K hK=>h f w p hG hup hdn hfr hp K fun v w' hv hG'=>?_⟩
 rw [if_neg (by rw [hi];simp)] at hK
 cases ho:o.dst with
 | none=>
  rw [ho] at hG' hK
  exact hK v w' f rfl (fun d hd=>by cases hd) (fun _=>rfl) (fun e=>by cases e) hG'
 | some d=>
  rw [ho] at hG' hK
  rw [fr_put (hd d ho)]
  exact hK v w' _ (fr_put (hd d ho)) (fun d' hd'=>by cases hd';rfl) (fun e=>by cases e) (fun _=>hv) hG'
theorem StepPh.wr {n fuel:Nat} {cs:List Nat} {a0:Act} {R:Nat→Value→Prop} {G:Nat→(Nat→Value)→World→Prop} {i:Nat} {o:Oper} (k:Nat) (hg:o.guard=none) (hk:k<cs.length) (hi:cs.getD k 0=i) (hd:∀ d,o.dst=some d→d<n)
 (hup:∀ j,j<k→reach ops fuel i (cs.getD j 0)=true)
 (h:∀ f w,G k f w →
  (∀ t,dstFree ops t=true→f t=a0.tmps.getD t undef)→(∀ j o' d,ops[j]? = some o'→o'.dst=some d→waits o j=true→R j (f d)) →
  ∀ K:Act→World→Prop,(∀ v w',(o.dst.isSome=true→R i v)→G (k+1) (upd f o.dst v) w'→K ((Fr n f).put o.dst v) w')→o.wp P (Fr n f) w K Q):StepPh P ops Q n fuel cs a0 R G i o:=by
 intro f w p hG hup' hdn hfr hp
 have hpk:p=k:=by
  have h1:=hdn k hk (.inr hi)
  rcases Nat.eq_zero_or_pos k with h2|h2
  ·omega
  ·have:=hup' (k - 1) (by omega) (hup (k - 1) (by omega))
   omega
 subst hpk
 have hc:cs.contains i=true:=List.contains_iff_mem.2 (by rw [←hi,List.getD_eq_getElem?_getD,List.getElem?_eq_getElem hk];exact List.getElem_mem hk)
 refine ⟨hg,fun K hK=>h f w hG hfr hp K fun v w' hv hG'=>?_⟩
 rw [if_pos hc] at hK
 cases ho:o.dst with
 | none=>
  rw [ho] at hG' hK
  exact hK v w' f rfl (fun d hd=>by cases hd) (fun _=>rfl) (fun e=>by cases e) hG'
 | some d=>
  rw [ho] at hG' hK
  rw [fr_put (hd d ho)]
  exact hK v w' _ (fr_put (hd d ho)) (fun d' hd'=>by cases hd';rfl) (fun e=>by cases e) (fun _=>hv (by rw [ho];rfl)) hG'
end
section
variable {P:Program} {ops:Array Oper} {Q:Exit→Act→World→Prop}
end
def mixL (D:List Nat) (f:Nat→Value):Nat→List Value→List Value
 | _,[]=>[]
 | i,v :: l=>(bif D.elem i then f i else v) :: mixL D f (i+1) l
theorem mixL_eq (D:List Nat) (f:Nat→Value):∀ (l:List Value) (k:Nat),(∀ i,i<l.length→D.elem (k+i)=false→f (k+i)=l.getD i undef)→mixL D f k l=(List.range' k l.length).map f
 | [],_,_=>rfl
 | v :: l,k,h=>by
  unfold mixL
  rw [List.length_cons,List.range'_succ,List.map_cons]
  congr 1
  ·have h0:=h 0 (by simp)
   rw [Nat.add_zero] at h0
   cases hd:D.elem k with
   | true=>rfl
   | false=>exact (h0 hd).symm
  ·refine mixL_eq D f l (k+1) fun i hi hd=>?_
   have:=h (i+1) (by simp;omega)
   rw [Nat.add_comm i 1,←Nat.add_assoc] at this
   rw [this hd]
   simp [List.getD_eq_getElem?_getD,Nat.add_comm 1 i]
theorem fr_back {ops:Array Oper} {n:Nat} {f:Nat→Value} {l:List Value} {D:List Nat} (hs:l.length=n) (hD:((List.range n).all fun t=>D.elem t || dstFree ops t)=true) (hfr:∀ t,dstFree ops t=true→f t=(⟨l.toArray,[]⟩:Act).tmps.getD t undef) :
 Fr n f=⟨(mixL D f 0 l).toArray,[]⟩:=by
 unfold Fr
 rw [mixL_eq D f l 0 (fun i hi hd=>?_),hs,List.range_eq_range']
 rw [Nat.zero_add] at hd ⊢
 have h1:=(List.all_eq_true.1 hD) i (List.mem_range.2 (by omega))
 rw [hd,Bool.false_or] at h1
 rw [hfr i h1]
 simp [List.getD_eq_getElem?_getD,hi]
section
variable {P:Program} {ops:Array Oper} {Q:Exit→Act→World→Prop}
def StepPT (P:Program) (ops:Array Oper) (Q:Exit→Act→World→Prop) (n:Nat) (fuel:Nat) (cs:List Nat) (a0:Act) (R:Nat→Value→Prop) (G:Nat→(Nat→Value)→World→Prop) (i:Nat) (o:Oper):Prop:=
 ∀ f w p,G p f w→(∀ k,k<cs.length→reach ops fuel i (cs.getD k 0)=true→k<p)→(∀ k,k<cs.length→(reach ops fuel (cs.getD k 0) i=true∨cs.getD k 0=i)→p≤k) →
  (∀ t,dstFree ops t=true→f t=a0.tmps.getD t undef)→(∀ j o' d,ops[j]? = some o'→o'.dst=some d→waits o j=true→R j (f d)) →
  Region.wanted o (yielded ops (Fr n f).tmps)=true∧∀ K:Act→World→Prop,(∀ v w' f',(Fr n f).put o.dst v=Fr n f'→(∀ d,o.dst=some d→f'=fun t=>if t=d then v else f t)→(o.dst=none→f'=f)→(o.dst.isSome=true→R i v)→G (if cs.contains i then p+1 else p) f' w'→K (Fr n f') w')→o.wp P (Fr n f) w K Q
theorem region_pt {id n:Nat} {a0:Act} {w0:World} (fuel:Nat) (cs:List Nat) (hs:a0.tmps.size=n) (hd:a0.defers=[]) (hm:P.follows .mixedOrders=true) (hok:opsOk n ops=true) (hch:chain ops fuel cs=true)
 (R:Nat→Value→Prop) (G:Nat→(Nat→Value)→World→Prop)
 (h0:G 0 (fun t=>a0.tmps.getD t undef) w0.drew)
 (steps:AllAt (StepPT P ops Q n fuel cs a0 R G) 0 ops.toList)
 (done:∀ f w,G cs.length f w→(∀ t,dstFree ops t=true→f t=a0.tmps.getD t undef)→(∀ i o d,ops[i]? = some o→o.dst=some d→R i (f d))→Q .normal (Fr n f) w) :
 (Code.region id ops true).wp P Q a0 w0:=by
 have hback:∀ (i:Nat) o,ops[i]? = some o→∀ e∈o.after,Region.binds .any e=true→e.on<i:=fun i o ho=>(opsOk_at hok ho).1
 refine wp_region_any hm ?_
 refine wpAny_inv (fun l a w=>∃ f p,a=Fr n f∧G p f w∧p≤cs.length∧(∀ k,k<cs.length→(l.getD (cs.getD k 0) false=true↔k<p))∧Closed ops l ∧
  (∀ t,dstFree ops t=true→f t=a0.tmps.getD t undef)∧∀ i o d,ops[i]? = some o→o.dst=some d→l.getD i true=true→R i (f d)) ?_ ?_ _ _ _ _ (by simp) ?_ ⟨_,0,fr_of hs hd,h0,Nat.zero_le _,?_,?_,fun _ _=>rfl,?_⟩
 ·rintro l a w i o hl ⟨f,p,rfl,hG,hp,hcs,hcl,hfr,hR⟩ ho he hf
  have hil:i<l.size:=by have:=(Array.getElem?_eq_some_iff.1 ho).1;omega
  have hf':l.getD i false=false:=by rw [getD_bool l i hil false true];exact hf
  have hpre:∀ j o' d,ops[j]? = some o'→o'.dst=some d→waits o j=true→R j (f d):=fun j o' d ho' hd hw=>by
   obtain ⟨e,hem',hb⟩:=List.any_eq_true.1 hw
   have hem:e∈o.after:=by simpa using hem'
   rw [Bool.and_eq_true,beq_iff_eq] at hb
   obtain ⟨hb,rfl⟩:=hb
   refine hR _ o' d ho' hd ?_
   have hj:e.on<ops.size:=(Array.getElem?_eq_some_iff.1 ho').1
   rw [getD_bool l e.on (by omega) true false]
   exact he e hem hb
  have hup:∀ k,k<cs.length→reach ops fuel i (cs.getD k 0)=true→k<p:=fun k hk hr=>(hcs k hk).1 (reach_ready hcl ho he hr)
  have hdn:∀ k,k<cs.length→(reach ops fuel (cs.getD k 0) i=true∨cs.getD k 0=i)→p≤k:=fun k hk hr=>by
   rcases Nat.lt_or_ge k p with hlt|hge
   ·exfalso
    have hdone:=(hcs k hk).2 hlt
    rcases hr with hr|hr
    ·rw [reach_done hcl fuel _ _ hr hdone] at hf';cases hf'
    ·rw [hr,hf'] at hdone;cases hdone
   ·exact hge
  have hst:=steps.at_ (i:=i) (o:=o) (by simpa using ho)
  rw [Nat.zero_add] at hst
  obtain ⟨hgd,hwp⟩:=hst f w p hG hup hdn hfr hpre
  unfold wpOp
  rw [ho]
  show if Region.wanted o (yielded ops (Fr n f).tmps)=true then _ else _
  rw [if_pos hgd]
  refine .inl (hwp _ fun v w' f' _ hf1 hf2 hRi hG'=>⟨f',_,rfl,hG',?_,?_,?_,?_,?_⟩)
  ·by_cases hc:cs.contains i=true
   ·rw [if_pos hc]
    obtain ⟨k,hk⟩:=List.getElem?_of_mem (List.contains_iff_mem.1 hc)
    have hkl:=(List.getElem?_eq_some_iff.1 hk).1
    have:=hdn k hkl (.inr (by rw [List.getD_eq_getElem?_getD,hk];rfl))
    omega
   ·rw [if_neg hc];exact hp
  ·intro k hk
   rw [getD_set l i _ hil]
   by_cases hc:cs.contains i=true
   ·rw [if_pos hc]
    obtain ⟨k0,hk0⟩:=List.getElem?_of_mem (List.contains_iff_mem.1 hc)
    have hkl:=(List.getElem?_eq_some_iff.1 hk0).1
    have hk0':cs.getD k0 0=i:=by rw [List.getD_eq_getElem?_getD,hk0];rfl
    have hpk:p=k0:=by
     have h1:=hdn k0 hkl (.inr hk0')
     rcases Nat.eq_or_lt_of_le h1 with h2|h2
     ·exact h2
     ·exfalso
      have hr:=(chain_at hch hkl).2 p h2
      rw [hk0'] at hr
      have:=hup p (by omega) hr.1
      omega
    subst hpk
    by_cases e:cs.getD k 0=i
    ·rw [if_pos e]
     have:k=p:=by
      rcases Nat.lt_trichotomy k p with h3|h3|h3
      ·exact absurd (hk0'.trans e.symm) ((chain_at hch hkl).2 k h3).2
      ·exact h3
      ·exact absurd (e.trans hk0'.symm) ((chain_at hch hk).2 p h3).2
     exact ⟨fun _=>by omega,fun _=>rfl⟩
    ·rw [if_neg e,hcs k hk]
     constructor
     ·intro h3;omega
     ·intro h3
      rcases Nat.eq_or_lt_of_le (Nat.le_of_lt_succ h3) with h4|h4
      ·exact absurd (h4▸hk0') e
      ·exact h4
   ·rw [if_neg hc]
    have e:cs.getD k 0≠i:=by
     rintro rfl
     refine hc (List.contains_iff_mem.2 ?_)
     rw [List.getD_eq_getElem?_getD,List.getElem?_eq_getElem hk]
     exact List.getElem_mem hk
    rw [if_neg e]
    exact hcs k hk
  ·intro j o' ho' hj e hem hb
   rw [getD_set l i _ hil] at hj ⊢
   by_cases ej:e.on=i
   ·rw [if_pos ej]
   ·rw [if_neg ej]
    by_cases eji:j=i
    ·subst eji
     rw [ho] at ho'
     cases ho'
     exact he e hem hb
    ·rw [if_neg eji] at hj
     exact hcl j o' ho' hj e hem hb
  ·intro t ht
   cases hdst:o.dst with
   | none=>rw [hf2 hdst];exact hfr t ht
   | some d0=>
    rw [hf1 d0 hdst]
    have hne:t≠d0:=by
     rintro rfl
     have:=(Array.all_eq_true_iff_forall_mem.1 ht) o (Array.mem_of_getElem? ho)
     rw [hdst] at this
     simp at this
    show (if t=d0 then v else f t)=_
    rw [if_neg hne]
    exact hfr t ht
  ·intro i' o' d ho' hd' hl'
   by_cases e:i'=i
   ·subst e
    rw [ho] at ho'
    cases ho'
    rw [hf1 d hd']
    show R i' (if d=d then v else f d)
    rw [if_pos rfl]
    exact hRi (by rw [hd'];rfl)
   ·rw [Array.getD_eq_getD_getElem?,Array.getElem?_setIfInBounds,if_neg (Ne.symm e),←Array.getD_eq_getD_getElem?] at hl'
    have hold:=hR i' o' d ho' hd' hl'
    cases hdst:o.dst with
    | none=>rw [hf2 hdst];exact hold
    | some d0=>
     rw [hf1 d0 hdst]
     have hne:d≠d0:=by
      rintro rfl
      exact e (opsOk_once hok ho' ho hd' hdst)
     show R i' (if d=d0 then v else f d)
     rw [if_neg hne]
     exact hold
 ·rintro l a w hl ⟨f,p,rfl,hG,hp,hcs,hcl,hfr,hR⟩ hr
  have hall:=ready_all hback hl hr
  have hpl:p=cs.length:=by
   rcases Nat.eq_or_lt_of_le hp with h1|h1
   ·exact h1
   ·exfalso
    have hlt:=(chain_at hch h1).1
    have h2:=hall _ hlt
    rw [getD_bool l _ (by omega) true false] at h2
    have:=(hcs p h1).1 h2
    omega
  subst hpl
  exact done f w hG hfr fun i o d ho hd=>hR i o d ho hd (hall i (Array.getElem?_eq_some_iff.1 ho).1)
 ·have h:∀ m,unl (Array.replicate ops.size false) m≤m:=by
   intro m
   induction m with
   | zero=>exact Nat.le_refl _
   | succ m ih=>rw [unl];split<;>omega
  exact h _
 ·intro k hk
  have hlt:=(chain_at hch hk).1
  rw [Array.getD_eq_getD_getElem?,Array.getElem?_replicate,if_pos hlt]
  simp
 ·intro i o ho hi
  have hlt:=(Array.getElem?_eq_some_iff.1 ho).1
  rw [Array.getD_eq_getD_getElem?,Array.getElem?_replicate,if_pos hlt] at hi
  cases hi
 ·intro i o d ho _ hl
  have hi:=(Array.getElem?_eq_some_iff.1 ho).1
  rw [Array.getD_eq_getD_getElem?,Array.getElem?_replicate,if_pos hi] at hl
  cases hl
theorem wanted_none {n:Nat} {f:Nat→Value} {o:Oper} (hg:o.guard=none):Region.wanted o (yielded ops (Fr n f).tmps)=true:=by simp [Region.wanted,hg]
theorem StepPT.reg {n fuel:Nat} {cs:List Nat} {a0:Act} {R:Nat→Value→Prop} {G:Nat→(Nat→Value)→World→Prop} {i:Nat} {o:Oper} (hg:∀ f:Nat→Value,(∀ j o' d,ops[j]? = some o'→o'.dst=some d→waits o j=true→R j (f d))→Region.wanted o (yielded ops (Fr n f).tmps)=true) (hi:cs.contains i=false) (hd:∀ d,o.dst=some d→d<n)
 (h:∀ f w p,G p f w→(∀ k,k<cs.length→reach ops fuel i (cs.getD k 0)=true→k<p)→(∀ k,k<cs.length→(reach ops fuel (cs.getD k 0) i=true∨cs.getD k 0=i)→p≤k) →
  (∀ t,dstFree ops t=true→f t=a0.tmps.getD t undef)→(∀ j o' d,ops[j]? = some o'→o'.dst=some d→waits o j=true→R j (f d)) →
  ∀ K:Act→World→Prop,(∀ v w',R i v→G p (upd f o.dst v) w'→K ((Fr n f).put o.dst v) w')→o.wp P (Fr n f) w K Q):StepPT P ops Q n fuel cs a0 R G i o:=by
 intro f w p hG hup hdn hfr hp
 refine ⟨hg f hp,fun K hK=>h f w p hG hup hdn hfr hp K fun v w' hv hG'=>?_⟩
 rw [if_neg (by rw [hi];simp)] at hK
 cases ho:o.dst with
 | none=>
  rw [ho] at hG' hK
  exact hK v w' f rfl (fun d hd=>by cases hd) (fun _=>rfl) (fun e=>by cases e) hG'
 | some d=>
  rw [ho] at hG' hK
  rw [fr_put (hd d ho)]
  exact hK v w' _ (fr_put (hd d ho)) (fun d' hd'=>by cases hd';rfl) (fun e=>by cases e) (fun _=>hv) hG'
theorem StepPT.wr {n fuel:Nat} {cs:List Nat} {a0:Act} {R:Nat→Value→Prop} {G:Nat→(Nat→Value)→World→Prop} {i:Nat} {o:Oper} (k:Nat) (hg:∀ f:Nat→Value,(∀ j o' d,ops[j]? = some o'→o'.dst=some d→waits o j=true→R j (f d))→Region.wanted o (yielded ops (Fr n f).tmps)=true) (hk:k<cs.length) (hi:cs.getD k 0=i) (hd:∀ d,o.dst=some d→d<n)
 (hup:∀ j,j<k→reach ops fuel i (cs.getD j 0)=true)
 (h:∀ f w,G k f w →
  (∀ t,dstFree ops t=true→f t=a0.tmps.getD t undef)→(∀ j o' d,ops[j]? = some o'→o'.dst=some d→waits o j=true→R j (f d)) →
  ∀ K:Act→World→Prop,(∀ v w',(o.dst.isSome=true→R i v)→G (k+1) (upd f o.dst v) w'→K ((Fr n f).put o.dst v) w')→o.wp P (Fr n f) w K Q):StepPT P ops Q n fuel cs a0 R G i o:=by
 intro f w p hG hup' hdn hfr hp
 have hpk:p=k:=by
  have h1:=hdn k hk (.inr hi)
  rcases Nat.eq_zero_or_pos k with h2|h2
  ·omega
  ·have:=hup' (k - 1) (by omega) (hup (k - 1) (by omega))
   omega
 subst hpk
 have hc:cs.contains i=true:=List.contains_iff_mem.2 (by rw [←hi,List.getD_eq_getElem?_getD,List.getElem?_eq_getElem hk];exact List.getElem_mem hk)
 refine ⟨hg f hp,fun K hK=>h f w hG hfr hp K fun v w' hv hG'=>?_⟩
 rw [if_pos hc] at hK
 cases ho:o.dst with
 | none=>
  rw [ho] at hG' hK
  exact hK v w' f rfl (fun d hd=>by cases hd) (fun _=>rfl) (fun e=>by cases e) hG'
 | some d=>
  rw [ho] at hG' hK
  rw [fr_put (hd d ho)]
  exact hK v w' _ (fr_put (hd d ho)) (fun d' hd'=>by cases hd';rfl) (fun e=>by cases e) (fun _=>hv (by rw [ho];rfl)) hG'
end
end Go.Proofs.YtajmeimjaapagaaGreatDoor
