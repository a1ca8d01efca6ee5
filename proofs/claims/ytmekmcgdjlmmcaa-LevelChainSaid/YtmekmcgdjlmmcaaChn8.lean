/-
  Part 8: what the statement needs of these texts: Inv, InvF.
-/
import Derived.BigQuiet
import Derived.Deep.OwnRows
import Derived.Deep.QuietTactic
import Derived.Lib.Hide
import Derived.Orders
import Derived.ProofKit
import Derived.Test.YtmekmcgdjlmmcaaRows
import Derived.WalkKit
import Derived.WalkLawsBesides
import Derived.WalkSpells
import Derived.Test.YtmekmcgdjlmmcaaChn4
namespace Go.Proofs.Ytmekmcgdjlmmcaa
open Go.RowKit Go.Deep

/-- A frame of n slots. -/
def Fr (n : Nat) (f : Nat → Value) : Act := ⟨((List.range n).map f).toArray, []⟩
theorem fr_some {n t : Nat} {f : Nat → Value} (h : t < n) : (Fr n f).tmps[t]? = some (f t) := by
  simp [Fr, h]
theorem fr_put {n d : Nat} {f : Nat → Value} {v : Value} (_h : d < n) : (Fr n f).put (some d) v = Fr n (fun t => if t = d then v else f t) := by
  show (⟨((List.range n).map f).toArray.setIfInBounds d v, []⟩ : Act) = ⟨((List.range n).map fun t => if t = d then v else f t).toArray, []⟩
  congr 1
  apply Array.ext
  · simp
  · intro i h1 h2
    simp only [List.size_toArray, List.length_map, List.length_range] at h2
    by_cases e : i = d
    · subst e
      simp
    · simp [Array.getElem_setIfInBounds, e, Ne.symm e]

section
variable {P : Program} {ops : Array Oper} {Q : Exit → Act → World → Prop}

/-- How many of the first m have not come up. -/
def unl (l : Array Bool) : Nat → Nat
  | 0 => 0
  | m + 1 => unl l m + if l.getD m true = false then 1 else 0
theorem unl_set {l : Array Bool} {i : Nat} (hi : l.getD i true = false) : ∀ m, unl (l.setIfInBounds i true) m + (if i < m then 1 else 0) = unl l m := by
  have hil : i < l.size := by
    rcases Nat.lt_or_ge i l.size with h | h
    · exact h
    · rw [Array.getD_eq_getD_getElem?, Array.getElem?_eq_none h] at hi
      cases hi
  have hget : ∀ j, (l.setIfInBounds i true).getD j true = if j = i then true else l.getD j true := fun j => by
    rw [Array.getD_eq_getD_getElem?, Array.getElem?_setIfInBounds]
    by_cases e : j = i
    · subst e; simp [hil]
    · rw [if_neg (Ne.symm e), if_neg e, Array.getD_eq_getD_getElem?]
  intro m
  induction m with
  | zero => rfl
  | succ m ih =>
    rw [unl, unl, hget]
    by_cases e : m = i
    · subst e
      have h1 : (if m < m + 1 then 1 else 0) = 1 := if_pos (by omega)
      have h2 : (if m < m then 1 else 0) = 0 := if_neg (by omega)
      rw [h2] at ih
      rw [if_pos rfl, if_neg (by decide), hi, if_pos rfl, h1]
      omega
    · rw [if_neg e]
      have h1 : (if i < m + 1 then 1 else 0) = (if i < m then 1 else 0) := by
        by_cases hlt : i < m
        · rw [if_pos hlt, if_pos (by omega)]
        · rw [if_neg hlt, if_neg (by omega)]
      rw [h1]
      omega
theorem unl_zero {l : Array Bool} : ∀ {m : Nat}, unl l m = 0 → ∀ j, j < m → l.getD j true = true
  | 0, _, j, hj => absurd hj (by omega)
  | m + 1, h, j, hj => by
    rw [unl] at h
    by_cases e : j = m
    · subst e
      cases hb : l.getD j true with
      | true => rfl
      | false => rw [hb, if_pos rfl] at h; omega
    · exact unl_zero (m := m) (by omega) j (by omega)

theorem ready_mem {md : Region.Mode} {l : Array Bool} {i : Nat} (h : i ∈ Region.ready md ops l) :
    ∃ o, ops[i]? = some o ∧ i < ops.size ∧ l.getD i true = false ∧ ∀ e ∈ o.after, Region.binds md e = true → l.getD e.on false = true := by
  unfold Region.ready at h
  rw [List.mem_filter, List.mem_range] at h
  obtain ⟨hlt, h⟩ := h
  rw [Bool.and_eq_true] at h
  obtain ⟨h1, h2⟩ := h
  cases ho : ops[i]? with
  | none => rw [ho] at h2; cases h2
  | some o =>
    rw [ho] at h2
    refine ⟨o, rfl, hlt, by simpa using h1, fun e he hb => ?_⟩
    have h3 : o.after.all (fun e => !Region.binds md e || l.getD e.on false) = true := h2
    have := (Array.all_eq_true_iff_forall_mem.1 h3) e he
    rw [hb] at this
    simpa using this
/-- Where every edge goes back, what has not come up can come up. -/
theorem ready_all {md : Region.Mode} {l : Array Bool} (hback : ∀ (i : Nat) o, ops[i]? = some o → ∀ e ∈ o.after, Region.binds md e = true → e.on < i) (hl : l.size = ops.size) (h : Region.ready md ops l = []) : ∀ i, i < ops.size → l.getD i true = true := by
  intro i
  induction i using Nat.strongRecOn with
  | _ i ih =>
    intro hi
    cases hb : l.getD i true with
    | true => rfl
    | false =>
      exfalso
      have hm : i ∈ Region.ready md ops l := by
        unfold Region.ready
        rw [List.mem_filter, List.mem_range]
        refine ⟨hi, ?_⟩
        rw [hb, Array.getElem?_eq_getElem hi]
        show (ops[i].after.all fun e => !Region.binds md e || l.getD e.on false) = true
        rw [Array.all_eq_true_iff_forall_mem]
        intro e he
        cases hbd : Region.binds md e with
        | false => rfl
        | true =>
        have hlt := hback i ops[i] (Array.getElem?_eq_getElem hi) e he hbd
        have h1 := ih e.on hlt (by omega)
        have h2 : l.getD e.on false = true := by
          rw [Array.getD_eq_getD_getElem?, Array.getElem?_eq_getElem (by omega)] at h1 ⊢
          exact h1
        rw [h2]
        simp
      rw [h] at hm
      cases hm

theorem wpAny_inv {md : Region.Mode} (Inv : Array Bool → Act → World → Prop)
    (step : ∀ l a w i o, l.size = ops.size → Inv l a w → ops[i]? = some o → (∀ e ∈ o.after, Region.binds md e = true → l.getD e.on false = true) → l.getD i true = false → wpOp P ops Q i (Inv (l.setIfInBounds i true)) a w)
    (done : ∀ l a w, l.size = ops.size → Inv l a w → Region.ready md ops l = [] → Q .normal a w) :
    ∀ fuel l a w, l.size = ops.size → unl l ops.size ≤ fuel → Inv l a w → wpAny P md ops Q fuel l a w := by
  intro fuel
  induction fuel with
  | zero =>
    intro l a w hl hu hi
    have hr : Region.ready md ops l = [] := by
      apply List.eq_nil_iff_forall_not_mem.2
      intro i hm
      obtain ⟨o, _, hlt, hf, _⟩ := ready_mem hm
      rw [unl_zero (by omega) i hlt] at hf
      cases hf
    exact ⟨hr, done l a w hl hi hr⟩
  | succ fuel ih =>
    intro l a w hl hu hi
    refine ⟨fun hr => done l a w hl hi hr, fun i hm => ?_⟩
    obtain ⟨o, ho, hlt, hf, he⟩ := ready_mem hm
    refine wpOp_mono (fun a' w' h' => ih _ a' w' (by simpa using hl) ?_ h') (step l a w i o hl hi ho he hf)
    have := unl_set hf ops.size
    rw [if_pos hlt] at this
    omega

/-- Every edge goes back; every slot is written once, within the frame. -/
def opsOk (n : Nat) (ops : Array Oper) : Bool :=
  (List.range ops.size).all fun i => match ops[i]? with
    | none => true
    | some o => o.after.all (fun e => !Region.binds .any e || e.on < i) && (match o.dst with
      | none => true
      | some d => d < n && (List.range i).all fun j => match ops[j]? with
        | none => true
        | some o' => o'.dst != some d)
/-- No operation writes slot t. -/
def dstFree (ops : Array Oper) (t : Nat) : Bool := ops.all fun o => o.dst != some t
/-- Operation o waits for operation j. -/
def waits (o : Oper) (j : Nat) : Bool := o.after.toList.any fun e => Region.binds .any e && e.on == j

theorem opsOk_at {n : Nat} (h : opsOk n ops = true) {i : Nat} {o : Oper} (ho : ops[i]? = some o) :
    (∀ e ∈ o.after, Region.binds .any e = true → e.on < i) ∧ ∀ d, o.dst = some d → d < n ∧ ∀ j o', j < i → ops[j]? = some o' → o'.dst ≠ some d := by
  have hi : i < ops.size := (Array.getElem?_eq_some_iff.1 ho).1
  have h1 := (List.all_eq_true.1 h) i (List.mem_range.2 hi)
  simp only [ho, Bool.and_eq_true] at h1
  obtain ⟨h1, h2⟩ := h1
  refine ⟨fun e he hb => by have := (Array.all_eq_true_iff_forall_mem.1 h1) e he; rw [hb] at this; simpa using this, fun d hd => ?_⟩
  simp only [hd, Bool.and_eq_true, decide_eq_true_eq] at h2
  refine ⟨h2.1, fun j o' hj ho' => ?_⟩
  have h3 := (List.all_eq_true.1 h2.2) j (List.mem_range.2 hj)
  simp only [ho'] at h3
  simpa using h3
theorem opsOk_once {n : Nat} (h : opsOk n ops = true) {i j : Nat} {o o' : Oper} {d : Nat} (ho : ops[i]? = some o) (ho' : ops[j]? = some o') (hd : o.dst = some d) (hd' : o'.dst = some d) : i = j := by
  rcases Nat.lt_trichotomy i j with hij | hij | hij
  · exact absurd hd (((opsOk_at h ho').2 d hd').2 i o hij ho)
  · exact hij
  · exact absurd hd' (((opsOk_at h ho).2 d hd).2 j o' hij ho')

theorem fr_of {n : Nat} {a : Act} (hs : a.tmps.size = n) (hd : a.defers = []) : a = Fr n (fun t => a.tmps.getD t undef) := by
  obtain ⟨t, d⟩ := a
  simp only at hs hd
  subst hd
  subst hs
  show (⟨t, []⟩ : Act) = ⟨((List.range t.size).map fun i => t.getD i undef).toArray, []⟩
  congr 1
  apply Array.ext
  · simp
  · intro i h1 h2
    simp [h1]
/-- What has to be shown of operation o, number i, at the frame a0. -/
def StepAt (P : Program) (ops : Array Oper) (Q : Exit → Act → World → Prop) (n : Nat) (a0 : Act) (R : Nat → Value → World → Prop) (G : World → Prop) (Gr : World → World → Prop) (i : Nat) (o : Oper) : Prop :=
  ∀ f w, G w → (∀ t, dstFree ops t = true → f t = a0.tmps.getD t undef) → (∀ j o' d, ops[j]? = some o' → o'.dst = some d → waits o j = true → R j (f d) w) →
    if Region.wanted o (yielded ops (Fr n f).tmps) = true then ∀ K : Act → World → Prop, (∀ v w', R i v w' → G w' → Gr w w' → K ((Fr n f).put o.dst v) w') → o.wp P (Fr n f) w K Q else R i undef w
theorem StepAt.plain {n : Nat} {a0 : Act} {R : Nat → Value → World → Prop} {G : World → Prop} {Gr : World → World → Prop} {i : Nat} {o : Oper} (hg : o.guard = none)
    (h : ∀ f w, G w → (∀ t, dstFree ops t = true → f t = a0.tmps.getD t undef) → (∀ j o' d, ops[j]? = some o' → o'.dst = some d → waits o j = true → R j (f d) w) →
      ∀ K : Act → World → Prop, (∀ v w', R i v w' → G w' → Gr w w' → K ((Fr n f).put o.dst v) w') → o.wp P (Fr n f) w K Q) : StepAt P ops Q n a0 R G Gr i o := by
  intro f w hG hfr hp
  rw [if_pos (by simp [Region.wanted, hg])]
  exact h f w hG hfr hp
/-- p of each operation of a list, with its number. -/
def AllAt (p : Nat → Oper → Prop) : Nat → List Oper → Prop
  | _, [] => True
  | i, o :: l => p i o ∧ AllAt p (i + 1) l
theorem AllAt.at_ {p : Nat → Oper → Prop} : ∀ {l : List Oper} {k i : Nat} {o : Oper}, AllAt p k l → l[i]? = some o → p (k + i) o
  | [], _, _, _, _, h => by simp at h
  | a :: l, k, 0, o, h, ho => by
    simp only [List.getElem?_cons_zero, Option.some.injEq] at ho
    subst ho
    exact h.1
  | a :: l, k, i + 1, o, h, ho => by
    rw [List.getElem?_cons_succ] at ho
    have := AllAt.at_ h.2 ho
    rwa [Nat.add_assoc, Nat.add_comm 1] at this

theorem fr_opt (n t : Nat) (f : Nat → Value) : (Fr n f).tmps[t]?.getD undef = if t < n then f t else undef := by
  by_cases h : t < n
  · rw [if_pos h, fr_some h]
    rfl
  · rw [if_neg h]
    simp [Fr, h]
end
end Go.Proofs.Ytmekmcgdjlmmcaa

namespace Go.Proofs.Ytmekmcgdjlmmcaa
open Go.RowKit Go.Deep
set_option linter.unusedVariables false
set_option linter.unusedSimpArgs false

section
variable {P : Program} {ops : Array Oper} {Q : Exit → Act → World → Prop}
/-- What stands in an operation's slot. -/
def dstV (o : Oper) (f : Nat → Value) : Value := match o.dst with | some d => f d | none => undef
theorem dstV_some {o : Oper} {f : Nat → Value} {d : Nat} (h : o.dst = some d) : dstV o f = f d := by unfold dstV; rw [h]
theorem dstV_none {o : Oper} {f : Nat → Value} (h : o.dst = none) : dstV o f = undef := by unfold dstV; rw [h]
/-- The law once more, for a region that stores as well: R of an operation without a slot is kept, too (it says nothing of v). -/
theorem region_invS {id n : Nat} {f0 : Nat → Value} {w0 : World} (hm : P.follows .mixedOrders = true) (hok : opsOk n ops = true)
    (R : Nat → Value → World → Prop) (G : World → Prop) (Gr : World → World → Prop)
    (hrefl : ∀ w, Gr w w) (hst : ∀ i v w w', Gr w w' → R i v w → R i v w') (h0 : G w0.drew)
    (hno : ∀ i o v w, ops[i]? = some o → o.dst = none → R i v w → R i undef w)
    (step : ∀ i o, ops[i]? = some o → ∀ f w, G w → (∀ t, dstFree ops t = true → f t = f0 t) → (∀ j o' d, ops[j]? = some o' → o'.dst = some d → waits o j = true → R j (f d) w) →
      if Region.wanted o (yielded ops (Fr n f).tmps) = true then ∀ K : Act → World → Prop, (∀ v w', R i v w' → G w' → Gr w w' → K ((Fr n f).put o.dst v) w') → o.wp P (Fr n f) w K Q else R i undef w)
    (done : ∀ f w, G w → (∀ t, dstFree ops t = true → f t = f0 t) → (∀ i o, ops[i]? = some o → R i (dstV o f) w) → Q .normal (Fr n f) w) :
    (Code.region id ops true).wp P Q (Fr n f0) w0 := by
  have hback : ∀ (i : Nat) o, ops[i]? = some o → ∀ e ∈ o.after, Region.binds .any e = true → e.on < i := fun i o ho => (opsOk_at hok ho).1
  refine wp_region_any hm ?_
  refine wpAny_inv (fun l a w => ∃ f, a = Fr n f ∧ G w ∧ (∀ t, dstFree ops t = true → f t = f0 t) ∧ ∀ i o, ops[i]? = some o → l.getD i true = true → R i (dstV o f) w) ?_ ?_ _ _ _ _ (by simp) ?_ ⟨f0, rfl, h0, fun _ _ => rfl, ?_⟩
  · rintro l a w i o hl ⟨f, rfl, hG, hfr, hR⟩ ho he hf
    have hp : ∀ j o' d, ops[j]? = some o' → o'.dst = some d → waits o j = true → R j (f d) w := fun j o' d ho' hd hw => by
      obtain ⟨e, hem', hb⟩ := List.any_eq_true.1 hw
      have hem : e ∈ o.after := by simpa using hem'
      rw [Bool.and_eq_true, beq_iff_eq] at hb
      obtain ⟨hb, rfl⟩ := hb
      rw [← dstV_some hd (f := f)]
      refine hR _ o' ho' ?_
      have hj : e.on < ops.size := (Array.getElem?_eq_some_iff.1 ho').1
      have := he e hem hb
      rw [Array.getD_eq_getD_getElem?, Array.getElem?_eq_getElem (by omega)] at this ⊢
      exact this
    have hs := step i o ho f w hG hfr hp
    have hil : i < l.size := by have := (Array.getElem?_eq_some_iff.1 ho).1; omega
    have next : ∀ v w', R i v w' → G w' → Gr w w' → ∃ f', (Fr n f).put o.dst v = Fr n f' ∧ G w' ∧ (∀ t, dstFree ops t = true → f' t = f0 t) ∧ ∀ i' o', ops[i']? = some o' → (l.setIfInBounds i true).getD i' true = true → R i' (dstV o' f') w' := by
      intro v w' hv hG' hg
      cases hd : o.dst with
      | none =>
        refine ⟨f, rfl, hG', hfr, fun i' o' ho' hl' => ?_⟩
        by_cases hne : i' = i
        · subst hne
          rw [ho] at ho'
          injection ho' with ho'
          subst ho'
          rw [dstV_none hd]
          exact hno i' o v w' ho hd hv
        rw [Array.getD_eq_getD_getElem?, Array.getElem?_setIfInBounds, if_neg (Ne.symm hne), ← Array.getD_eq_getD_getElem?] at hl'
        exact hst _ _ _ _ hg (hR i' o' ho' hl')
      | some d0 =>
        have hdn := ((opsOk_at hok ho).2 d0 hd).1
        refine ⟨_, fr_put hdn, hG', fun t ht => ?_, fun i' o' ho' hl' => ?_⟩
        · have hne : t ≠ d0 := by
            rintro rfl
            have := (Array.all_eq_true_iff_forall_mem.1 ht) o (Array.mem_of_getElem? ho)
            rw [hd] at this
            simp at this
          show (if t = d0 then v else f t) = f0 t
          rw [if_neg hne]
          exact hfr t ht
        · by_cases e : i' = i
          · subst e
            rw [ho] at ho'
            injection ho' with ho'
            subst ho'
            rw [dstV_some hd]
            show R i' (if d0 = d0 then v else f d0) w'
            rw [if_pos rfl]
            exact hv
          · have hq : dstV o' (fun t => if t = d0 then v else f t) = dstV o' f := by
              cases hd' : o'.dst with
              | none => rw [dstV_none hd', dstV_none hd']
              | some d =>
                rw [dstV_some hd', dstV_some hd']
                have hne : d ≠ d0 := by
                  rintro rfl
                  exact e (opsOk_once hok ho' ho hd' hd)
                rw [if_neg hne]
            rw [hq]
            rw [Array.getD_eq_getD_getElem?, Array.getElem?_setIfInBounds, if_neg (Ne.symm e), ← Array.getD_eq_getD_getElem?] at hl'
            exact hst _ _ _ _ hg (hR i' o' ho' hl')
    unfold wpOp
    rw [ho]
    show if Region.wanted o (yielded ops (Fr n f).tmps) = true then _ else _
    split
    · rename_i hw
      rw [if_pos hw] at hs
      exact .inl (hs _ fun v w' hv hG' hg => next v w' hv hG' hg)
    · rename_i hw
      rw [if_neg hw] at hs
      exact next undef w hs hG (hrefl w)
  · rintro l a w hl ⟨f, rfl, hG, hfr, hR⟩ hr
    exact done f w hG hfr fun i o ho => hR i o ho (ready_all hback hl hr i (Array.getElem?_eq_some_iff.1 ho).1)
  · have h : ∀ m, unl (Array.replicate ops.size false) m ≤ m := by
      intro m
      induction m with
      | zero => exact Nat.le_refl _
      | succ m ih => rw [unl]; split <;> omega
    exact h _
  · intro i o ho hl
    have hi := (Array.getElem?_eq_some_iff.1 ho).1
    rw [Array.getD_eq_getD_getElem?, Array.getElem?_replicate, if_pos hi] at hl
    cases hl

/-- The law, at a frame that is written out. -/
theorem region_invS' {id n : Nat} {a0 : Act} {w0 : World} (hs : a0.tmps.size = n) (hd : a0.defers = []) (hm : P.follows .mixedOrders = true) (hok : opsOk n ops = true)
    (R : Nat → Value → World → Prop) (G : World → Prop) (Gr : World → World → Prop)
    (hrefl : ∀ w, Gr w w) (hst : ∀ i v w w', Gr w w' → R i v w → R i v w') (h0 : G w0.drew)
    (hno : ∀ i o v w, ops[i]? = some o → o.dst = none → R i v w → R i undef w)
    (steps : AllAt (StepAt P ops Q n a0 R G Gr) 0 ops.toList)
    (done : ∀ f w, G w → (∀ t, dstFree ops t = true → f t = a0.tmps.getD t undef) → (∀ i o, ops[i]? = some o → R i (dstV o f) w) → Q .normal (Fr n f) w) :
    (Code.region id ops true).wp P Q a0 w0 := by
  have h := region_invS (id := id) (n := n) (f0 := fun t => a0.tmps.getD t undef) (w0 := w0) (Q := Q) hm hok R G Gr hrefl hst h0 hno (fun i o ho => by
    have := steps.at_ (i := i) (o := o) (by simpa using ho)
    rwa [Nat.zero_add] at this) done
  rw [← fr_of hs hd] at h
  exact h
/-- The slot that is spoken of beside is one that nobody writes, or one that the operation waits for. -/
def auxOk (ops : Array Oper) (aux : Nat → Nat) : Bool :=
  (List.range ops.size).all fun i => match ops[i]? with
    | none => true
    | some o => dstFree ops (aux i) || (List.range ops.size).any fun j => match ops[j]? with
      | none => false
      | some o' => o'.dst == some (aux i) && waits o j
theorem auxOk_at {aux : Nat → Nat} (h : auxOk ops aux = true) {i : Nat} {o : Oper} (ho : ops[i]? = some o) : dstFree ops (aux i) = true ∨ ∃ j o', ops[j]? = some o' ∧ o'.dst = some (aux i) ∧ waits o j = true := by
  have hi : i < ops.size := (Array.getElem?_eq_some_iff.1 ho).1
  have h1 := (List.all_eq_true.1 h) i (List.mem_range.2 hi)
  simp only [ho, Bool.or_eq_true] at h1
  rcases h1 with h1 | h1
  · exact .inl h1
  · obtain ⟨j, _, h2⟩ := List.any_eq_true.1 h1
    cases hj : ops[j]? with
    | none => rw [hj] at h2; cases h2
    | some o' =>
      rw [hj] at h2
      simp only [Bool.and_eq_true, beq_iff_eq] at h2
      exact .inr ⟨j, o', hj, h2.1, h2.2⟩
/-- And once more: R may speak of one more slot, which the operation waits for (or which nobody writes): a store through a pointer of the region's own. -/
theorem region_invF {id n : Nat} {f0 : Nat → Value} {w0 : World} (hm : P.follows .mixedOrders = true) (hok : opsOk n ops = true)
    (R : Nat → Value → Value → World → Prop) (aux : Nat → Nat) (haux : auxOk ops aux = true) (G : World → Prop) (Gr : World → World → Prop)
    (hrefl : ∀ w, Gr w w) (hst : ∀ i v u w w', Gr w w' → R i v u w → R i v u w') (h0 : G w0.drew)
    (hno : ∀ i o v u w, ops[i]? = some o → o.dst = none → R i v u w → R i undef u w)
    (step : ∀ i o, ops[i]? = some o → ∀ f w, G w → (∀ t, dstFree ops t = true → f t = f0 t) → (∀ j o' d, ops[j]? = some o' → o'.dst = some d → waits o j = true → R j (f d) (f (aux j)) w) →
      if Region.wanted o (yielded ops (Fr n f).tmps) = true then ∀ K : Act → World → Prop, (∀ v w', R i v (f (aux i)) w' → G w' → Gr w w' → K ((Fr n f).put o.dst v) w') → o.wp P (Fr n f) w K Q else R i undef (f (aux i)) w)
    (done : ∀ f w, G w → (∀ t, dstFree ops t = true → f t = f0 t) → (∀ i o, ops[i]? = some o → R i (dstV o f) (f (aux i)) w) → Q .normal (Fr n f) w) :
    (Code.region id ops true).wp P Q (Fr n f0) w0 := by
  have hback : ∀ (i : Nat) o, ops[i]? = some o → ∀ e ∈ o.after, Region.binds .any e = true → e.on < i := fun i o ho => (opsOk_at hok ho).1
  refine wp_region_any hm ?_
  refine wpAny_inv (fun l a w => ∃ f, a = Fr n f ∧ G w ∧ (∀ t, dstFree ops t = true → f t = f0 t) ∧ (∀ i o, ops[i]? = some o → l.getD i true = true → R i (dstV o f) (f (aux i)) w) ∧ ∀ i o, ops[i]? = some o → l.getD i true = true → ∀ j, waits o j = true → l.getD j true = true) ?_ ?_ _ _ _ _ (by simp) ?_ ⟨f0, rfl, h0, fun _ _ => rfl, ?_, ?_⟩
  · rintro l a w i o hl ⟨f, rfl, hG, hfr, hR, hW⟩ ho he hf
    have hjl : ∀ j, waits o j = true → l.getD j true = true := fun j hw => by
      obtain ⟨e, hem', hb⟩ := List.any_eq_true.1 hw
      have hem : e ∈ o.after := by simpa using hem'
      rw [Bool.and_eq_true, beq_iff_eq] at hb
      obtain ⟨hb, rfl⟩ := hb
      have := he e hem hb
      rw [Array.getD_eq_getD_getElem?] at this ⊢
      cases hx : l[e.on]? with
      | none => rfl
      | some y => rw [hx] at this; exact this
    have hp : ∀ j o' d, ops[j]? = some o' → o'.dst = some d → waits o j = true → R j (f d) (f (aux j)) w := fun j o' d ho' hd hw => by
      rw [← dstV_some hd (f := f)]
      exact hR j o' ho' (hjl j hw)
    have hs := step i o ho f w hG hfr hp
    have hil : i < l.size := by have := (Array.getElem?_eq_some_iff.1 ho).1; omega
    have hil2 : l.getD i true = false := by
      rw [Array.getD_eq_getD_getElem?, Array.getElem?_eq_getElem hil] at hf ⊢
      exact hf
    have hold : ∀ i', i' ≠ i → (l.setIfInBounds i true).getD i' true = true → l.getD i' true = true := fun i' hne h => by
      rw [Array.getD_eq_getD_getElem?, Array.getElem?_setIfInBounds, if_neg (Ne.symm hne), ← Array.getD_eq_getD_getElem?] at h
      exact h
    have hmore : ∀ i', l.getD i' true = true → (l.setIfInBounds i true).getD i' true = true := fun i' h => by
      by_cases e : i' = i
      · rw [e, hil2] at h; cases h
      · rw [Array.getD_eq_getD_getElem?, Array.getElem?_setIfInBounds, if_neg (Ne.symm e), ← Array.getD_eq_getD_getElem?]
        exact h
    have hW' : ∀ i' o', ops[i']? = some o' → (l.setIfInBounds i true).getD i' true = true → ∀ j, waits o' j = true → (l.setIfInBounds i true).getD j true = true := fun i' o' ho' hl' j hw => by
      by_cases e : i' = i
      · subst e
        rw [ho] at ho'
        injection ho' with ho'
        subst ho'
        exact hmore j (hjl j hw)
      · exact hmore j (hW i' o' ho' (hold i' e hl') j hw)
    have next : ∀ v w', R i v (f (aux i)) w' → G w' → Gr w w' → ∃ f', (Fr n f).put o.dst v = Fr n f' ∧ G w' ∧ (∀ t, dstFree ops t = true → f' t = f0 t) ∧ (∀ i' o', ops[i']? = some o' → (l.setIfInBounds i true).getD i' true = true → R i' (dstV o' f') (f' (aux i')) w') ∧ ∀ i' o', ops[i']? = some o' → (l.setIfInBounds i true).getD i' true = true → ∀ j, waits o' j = true → (l.setIfInBounds i true).getD j true = true := by
      intro v w' hv hG' hg
      cases hd : o.dst with
      | none =>
        refine ⟨f, rfl, hG', hfr, fun i' o' ho' hl' => ?_, hW'⟩
        by_cases hne : i' = i
        · subst hne
          rw [ho] at ho'
          injection ho' with ho'
          subst ho'
          rw [dstV_none hd]
          exact hno i' o v _ w' ho hd hv
        exact hst _ _ _ _ _ hg (hR i' o' ho' (hold i' hne hl'))
      | some d0 =>
        have hdn := ((opsOk_at hok ho).2 d0 hd).1
        have hax : ∀ i' o', ops[i']? = some o' → (i' = i ∨ l.getD i' true = true) → aux i' ≠ d0 := by
          intro i' o' ho' hl' e
          rcases auxOk_at haux ho' with h1 | ⟨j, oj, hoj, hdj, hwj⟩
          · have := (Array.all_eq_true_iff_forall_mem.1 h1) o (Array.mem_of_getElem? ho)
            rw [hd, e] at this
            simp at this
          · have hji := opsOk_once hok hoj ho hdj (by rw [hd, e])
            subst hji
            rcases hl' with rfl | hl'
            · rw [ho] at ho'
              injection ho' with ho'
              subst ho'
              rw [hjl _ hwj] at hil2
              cases hil2
            · rw [hW i' o' ho' hl' _ hwj] at hil2
              cases hil2
        refine ⟨_, fr_put hdn, hG', fun t ht => ?_, fun i' o' ho' hl' => ?_, hW'⟩
        · have hne : t ≠ d0 := by
            rintro rfl
            have := (Array.all_eq_true_iff_forall_mem.1 ht) o (Array.mem_of_getElem? ho)
            rw [hd] at this
            simp at this
          show (if t = d0 then v else f t) = f0 t
          rw [if_neg hne]
          exact hfr t ht
        · by_cases e : i' = i
          · subst e
            rw [ho] at ho'
            injection ho' with ho'
            subst ho'
            rw [dstV_some hd]
            show R i' (if d0 = d0 then v else f d0) (if aux i' = d0 then v else f (aux i')) w'
            rw [if_pos rfl, if_neg (hax i' o ho (.inl rfl))]
            exact hv
          · have hq : dstV o' (fun t => if t = d0 then v else f t) = dstV o' f := by
              cases hd' : o'.dst with
              | none => rw [dstV_none hd', dstV_none hd']
              | some d =>
                rw [dstV_some hd', dstV_some hd']
                have hne : d ≠ d0 := by
                  rintro rfl
                  exact e (opsOk_once hok ho' ho hd' hd)
                rw [if_neg hne]
            rw [hq]
            show R i' (dstV o' f) (if aux i' = d0 then v else f (aux i')) w'
            rw [if_neg (hax i' o' ho' (.inr (hold i' e hl')))]
            exact hst _ _ _ _ _ hg (hR i' o' ho' (hold i' e hl'))
    unfold wpOp
    rw [ho]
    show if Region.wanted o (yielded ops (Fr n f).tmps) = true then _ else _
    split
    · rename_i hw
      rw [if_pos hw] at hs
      exact .inl (hs _ fun v w' hv hG' hg => next v w' hv hG' hg)
    · rename_i hw
      rw [if_neg hw] at hs
      exact next undef w hs hG (hrefl w)
  · rintro l a w hl ⟨f, rfl, hG, hfr, hR, hW⟩ hr
    exact done f w hG hfr fun i o ho => hR i o ho (ready_all hback hl hr i (Array.getElem?_eq_some_iff.1 ho).1)
  · have h : ∀ m, unl (Array.replicate ops.size false) m ≤ m := by
      intro m
      induction m with
      | zero => exact Nat.le_refl _
      | succ m ih => rw [unl]; split <;> omega
    exact h _
  · intro i o ho hl
    have hi := (Array.getElem?_eq_some_iff.1 ho).1
    rw [Array.getD_eq_getD_getElem?, Array.getElem?_replicate, if_pos hi] at hl
    cases hl
  · intro i o ho hl j _
    have hi := (Array.getElem?_eq_some_iff.1 ho).1
    rw [Array.getD_eq_getD_getElem?, Array.getElem?_replicate, if_pos hi] at hl
    cases hl
/-- What has to be shown of an operation there. -/
def StepF (P : Program) (ops : Array Oper) (Q : Exit → Act → World → Prop) (n : Nat) (a0 : Act) (R : Nat → Value → Value → World → Prop) (aux : Nat → Nat) (G : World → Prop) (Gr : World → World → Prop) (i : Nat) (o : Oper) : Prop :=
  ∀ f w, G w → (∀ t, dstFree ops t = true → f t = a0.tmps.getD t undef) → (∀ j o' d, ops[j]? = some o' → o'.dst = some d → waits o j = true → R j (f d) (f (aux j)) w) →
    if Region.wanted o (yielded ops (Fr n f).tmps) = true then ∀ K : Act → World → Prop, (∀ v w', R i v (f (aux i)) w' → G w' → Gr w w' → K ((Fr n f).put o.dst v) w') → o.wp P (Fr n f) w K Q else R i undef (f (aux i)) w
theorem StepF.plain {n : Nat} {a0 : Act} {R : Nat → Value → Value → World → Prop} {aux : Nat → Nat} {G : World → Prop} {Gr : World → World → Prop} {i : Nat} {o : Oper} (hg : o.guard = none)
    (h : ∀ f w, G w → (∀ t, dstFree ops t = true → f t = a0.tmps.getD t undef) → (∀ j o' d, ops[j]? = some o' → o'.dst = some d → waits o j = true → R j (f d) (f (aux j)) w) →
      ∀ K : Act → World → Prop, (∀ v w', R i v (f (aux i)) w' → G w' → Gr w w' → K ((Fr n f).put o.dst v) w') → o.wp P (Fr n f) w K Q) : StepF P ops Q n a0 R aux G Gr i o := by
  intro f w hG hfr hp
  rw [if_pos (by simp [Region.wanted, hg])]
  exact h f w hG hfr hp
/-- The law, at a frame that is written out. -/
theorem region_invF' {id n : Nat} {a0 : Act} {w0 : World} (hs : a0.tmps.size = n) (hd : a0.defers = []) (hm : P.follows .mixedOrders = true) (hok : opsOk n ops = true)
    (R : Nat → Value → Value → World → Prop) (aux : Nat → Nat) (haux : auxOk ops aux = true) (G : World → Prop) (Gr : World → World → Prop)
    (hrefl : ∀ w, Gr w w) (hst : ∀ i v u w w', Gr w w' → R i v u w → R i v u w') (h0 : G w0.drew)
    (hno : ∀ i o v u w, ops[i]? = some o → o.dst = none → R i v u w → R i undef u w)
    (steps : AllAt (StepF P ops Q n a0 R aux G Gr) 0 ops.toList)
    (done : ∀ f w, G w → (∀ t, dstFree ops t = true → f t = a0.tmps.getD t undef) → (∀ i o, ops[i]? = some o → R i (dstV o f) (f (aux i)) w) → Q .normal (Fr n f) w) :
    (Code.region id ops true).wp P Q a0 w0 := by
  have h := region_invF (id := id) (n := n) (f0 := fun t => a0.tmps.getD t undef) (w0 := w0) (Q := Q) hm hok R aux haux G Gr hrefl hst h0 hno (fun i o ho => by
    have := steps.at_ (i := i) (o := o) (by simpa using ho)
    rwa [Nat.zero_add] at this) done
  rw [← fr_of hs hd] at h
  exact h
end
end Go.Proofs.Ytmekmcgdjlmmcaa

