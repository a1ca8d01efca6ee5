/-
  A region that draws its order and writes: the operations that write come up in one order; each of the others is known to stand ahead of some of them, or behind.
-/
import Derived.Test.YtdhpemkmfkcadaaDoorInv
namespace Go.Proofs.YtdhpemkmfkcadaaDoor
open Go.RowKit Go.Deep
section
variable {P : Program} {ops : Array Oper} {Q : Exit → Act → World → Prop}

/-- Operation i waits for operation j, at last. -/
def reach (ops : Array Oper) : Nat → Nat → Nat → Bool
  | 0, _, _ => false
  | n + 1, i, j => match ops[i]? with
    | none => false
    | some o => o.after.toList.any fun e => Region.binds .any e && (e.on == j || reach ops n e.on j)

/-- What has come up has behind it all that it waits for. -/
def Closed (ops : Array Oper) (l : Array Bool) : Prop := ∀ i o, ops[i]? = some o → l.getD i false = true → ∀ e ∈ o.after, Region.binds .any e = true → l.getD e.on false = true
theorem reach_done {l : Array Bool} (h : Closed ops l) : ∀ n i j, reach ops n i j = true → l.getD i false = true → l.getD j false = true
  | 0, _, _, h', _ => by cases h'
  | n + 1, i, j, h', hi => by
    unfold reach at h'
    split at h'
    · cases h'
    · rename_i o ho
      obtain ⟨e, he, hb⟩ := List.any_eq_true.1 h'
      rw [Bool.and_eq_true, Bool.or_eq_true, beq_iff_eq] at hb
      have hd := h i o ho hi e (by simpa using he) hb.1
      rcases hb.2 with rfl | hb
      · exact hd
      · exact reach_done h n e.on j hb hd
theorem reach_ready {l : Array Bool} (h : Closed ops l) {n i j : Nat} {o : Oper} (ho : ops[i]? = some o) (hr : ∀ e ∈ o.after, Region.binds .any e = true → l.getD e.on false = true) (h' : reach ops n i j = true) : l.getD j false = true := by
  cases n with
  | zero => cases h'
  | succ n =>
    unfold reach at h'
    rw [ho] at h'
    obtain ⟨e, he, hb⟩ := List.any_eq_true.1 h'
    rw [Bool.and_eq_true, Bool.or_eq_true, beq_iff_eq] at hb
    have hd := hr e (by simpa using he) hb.1
    rcases hb.2 with rfl | hb
    · exact hd
    · exact reach_done h n e.on j hb hd

/-- The writers, each waiting for the one ahead of it. -/
def chain (ops : Array Oper) (n : Nat) (cs : List Nat) : Bool :=
  (List.range cs.length).all fun k => cs.getD k 0 < ops.size && (List.range k).all fun j => reach ops n (cs.getD k 0) (cs.getD j 0) && cs.getD k 0 != cs.getD j 0

theorem chain_at {n : Nat} {cs : List Nat} (h : chain ops n cs = true) {k : Nat} (hk : k < cs.length) : cs.getD k 0 < ops.size ∧ ∀ j, j < k → reach ops n (cs.getD k 0) (cs.getD j 0) = true ∧ cs.getD k 0 ≠ cs.getD j 0 := by
  have h1 := (List.all_eq_true.1 h) k (List.mem_range.2 hk)
  rw [Bool.and_eq_true, decide_eq_true_eq] at h1
  refine ⟨h1.1, fun j hj => ?_⟩
  have h2 := (List.all_eq_true.1 h1.2) j (List.mem_range.2 hj)
  rw [Bool.and_eq_true] at h2
  exact ⟨h2.1, by simpa using h2.2⟩

/-- What has to be shown of operation o, number i: in phase p (so many writers have come up). -/
def StepPh (P : Program) (ops : Array Oper) (Q : Exit → Act → World → Prop) (n : Nat) (fuel : Nat) (cs : List Nat) (a0 : Act) (R : Nat → Value → Prop) (G : Nat → (Nat → Value) → World → Prop) (i : Nat) (o : Oper) : Prop :=
  ∀ f w p, G p f w → (∀ k, k < cs.length → reach ops fuel i (cs.getD k 0) = true → k < p) → (∀ k, k < cs.length → (reach ops fuel (cs.getD k 0) i = true ∨ cs.getD k 0 = i) → p ≤ k) →
    (∀ t, dstFree ops t = true → f t = a0.tmps.getD t undef) → (∀ j o' d, ops[j]? = some o' → o'.dst = some d → waits o j = true → R j (f d)) →
    o.guard = none ∧ ∀ K : Act → World → Prop, (∀ v w' f', (Fr n f).put o.dst v = Fr n f' → (∀ d, o.dst = some d → f' = fun t => if t = d then v else f t) → (o.dst = none → f' = f) → (o.dst.isSome = true → R i v) → G (if cs.contains i then p + 1 else p) f' w' → K (Fr n f') w') → o.wp P (Fr n f) w K Q

theorem getD_bool (l : Array Bool) (i : Nat) (h : i < l.size) (a b : Bool) : l.getD i a = l.getD i b := by
  rw [Array.getD_eq_getD_getElem?, Array.getD_eq_getD_getElem?, Array.getElem?_eq_getElem h]
  rfl
theorem getD_set (l : Array Bool) (i j : Nat) (h : i < l.size) : (l.setIfInBounds i true).getD j false = if j = i then true else l.getD j false := by
  rw [Array.getD_eq_getD_getElem?, Array.getElem?_setIfInBounds]
  by_cases e : i = j
  · subst e; simp [h]
  · rw [if_neg e, if_neg (Ne.symm e), Array.getD_eq_getD_getElem?]

theorem region_ph {id n : Nat} {a0 : Act} {w0 : World} (fuel : Nat) (cs : List Nat) (hs : a0.tmps.size = n) (hd : a0.defers = []) (hm : P.follows .mixedOrders = true) (hok : opsOk n ops = true) (hch : chain ops fuel cs = true)
    (R : Nat → Value → Prop) (G : Nat → (Nat → Value) → World → Prop)
    (h0 : G 0 (fun t => a0.tmps.getD t undef) w0.drew)
    (steps : AllAt (StepPh P ops Q n fuel cs a0 R G) 0 ops.toList)
    (done : ∀ f w, G cs.length f w → (∀ t, dstFree ops t = true → f t = a0.tmps.getD t undef) → (∀ i o d, ops[i]? = some o → o.dst = some d → R i (f d)) → Q .normal (Fr n f) w) :
    (Code.region id ops true).wp P Q a0 w0 := by
  have hback : ∀ (i : Nat) o, ops[i]? = some o → ∀ e ∈ o.after, Region.binds .any e = true → e.on < i := fun i o ho => (opsOk_at hok ho).1
  refine wp_region_any hm ?_
  refine wpAny_inv (fun l a w => ∃ f p, a = Fr n f ∧ G p f w ∧ p ≤ cs.length ∧ (∀ k, k < cs.length → (l.getD (cs.getD k 0) false = true ↔ k < p)) ∧ Closed ops l ∧
    (∀ t, dstFree ops t = true → f t = a0.tmps.getD t undef) ∧ ∀ i o d, ops[i]? = some o → o.dst = some d → l.getD i true = true → R i (f d)) ?_ ?_ _ _ _ _ (by simp) ?_ ⟨_, 0, fr_of hs hd, h0, Nat.zero_le _, ?_, ?_, fun _ _ => rfl, ?_⟩
  · rintro l a w i o hl ⟨f, p, rfl, hG, hp, hcs, hcl, hfr, hR⟩ ho he hf
    have hil : i < l.size := by have := (Array.getElem?_eq_some_iff.1 ho).1; omega
    have hf' : l.getD i false = false := by rw [getD_bool l i hil false true]; exact hf
    have hpre : ∀ j o' d, ops[j]? = some o' → o'.dst = some d → waits o j = true → R j (f d) := fun j o' d ho' hd hw => by
      obtain ⟨e, hem', hb⟩ := List.any_eq_true.1 hw
      have hem : e ∈ o.after := by simpa using hem'
      rw [Bool.and_eq_true, beq_iff_eq] at hb
      obtain ⟨hb, rfl⟩ := hb
      refine hR _ o' d ho' hd ?_
      have hj : e.on < ops.size := (Array.getElem?_eq_some_iff.1 ho').1
      rw [getD_bool l e.on (by omega) true false]
      exact he e hem hb
    have hup : ∀ k, k < cs.length → reach ops fuel i (cs.getD k 0) = true → k < p := fun k hk hr => (hcs k hk).1 (reach_ready hcl ho he hr)
    have hdn : ∀ k, k < cs.length → (reach ops fuel (cs.getD k 0) i = true ∨ cs.getD k 0 = i) → p ≤ k := fun k hk hr => by
      rcases Nat.lt_or_ge k p with hlt | hge
      · exfalso
        have hdone := (hcs k hk).2 hlt
        rcases hr with hr | hr
        · rw [reach_done hcl fuel _ _ hr hdone] at hf'; cases hf'
        · rw [hr, hf'] at hdone; cases hdone
      · exact hge
    have hst := steps.at_ (i := i) (o := o) (by simpa using ho)
    rw [Nat.zero_add] at hst
    obtain ⟨hgd, hwp⟩ := hst f w p hG hup hdn hfr hpre
    unfold wpOp
    rw [ho]
    show if Region.wanted o (yielded ops (Fr n f).tmps) = true then _ else _
    rw [if_pos (by simp [Region.wanted, hgd])]
    refine .inl (hwp _ fun v w' f' _ hf1 hf2 hRi hG' => ⟨f', _, rfl, hG', ?_, ?_, ?_, ?_, ?_⟩)
    · by_cases hc : cs.contains i = true
      · rw [if_pos hc]
        obtain ⟨k, hk⟩ := List.getElem?_of_mem (List.contains_iff_mem.1 hc)
        have hkl := (List.getElem?_eq_some_iff.1 hk).1
        have := hdn k hkl (.inr (by rw [List.getD_eq_getElem?_getD, hk]; rfl))
        omega
      · rw [if_neg hc]; exact hp
    · intro k hk
      rw [getD_set l i _ hil]
      by_cases hc : cs.contains i = true
      · rw [if_pos hc]
        obtain ⟨k0, hk0⟩ := List.getElem?_of_mem (List.contains_iff_mem.1 hc)
        have hkl := (List.getElem?_eq_some_iff.1 hk0).1
        have hk0' : cs.getD k0 0 = i := by rw [List.getD_eq_getElem?_getD, hk0]; rfl
        have hpk : p = k0 := by
          have h1 := hdn k0 hkl (.inr hk0')
          rcases Nat.eq_or_lt_of_le h1 with h2 | h2
          · exact h2
          · exfalso
            have hr := (chain_at hch hkl).2 p h2
            rw [hk0'] at hr
            have := hup p (by omega) hr.1
            omega
        subst hpk
        by_cases e : cs.getD k 0 = i
        · rw [if_pos e]
          have : k = p := by
            rcases Nat.lt_trichotomy k p with h3 | h3 | h3
            · exact absurd (hk0'.trans e.symm) ((chain_at hch hkl).2 k h3).2
            · exact h3
            · exact absurd (e.trans hk0'.symm) ((chain_at hch hk).2 p h3).2
          exact ⟨fun _ => by omega, fun _ => rfl⟩
        · rw [if_neg e, hcs k hk]
          constructor
          · intro h3; omega
          · intro h3
            rcases Nat.eq_or_lt_of_le (Nat.le_of_lt_succ h3) with h4 | h4
            · exact absurd (h4 ▸ hk0') e
            · exact h4
      · rw [if_neg hc]
        have e : cs.getD k 0 ≠ i := by
          rintro rfl
          refine hc (List.contains_iff_mem.2 ?_)
          rw [List.getD_eq_getElem?_getD, List.getElem?_eq_getElem hk]
          exact List.getElem_mem hk
        rw [if_neg e]
        exact hcs k hk
    · intro j o' ho' hj e hem hb
      rw [getD_set l i _ hil] at hj ⊢
      by_cases ej : e.on = i
      · rw [if_pos ej]
      · rw [if_neg ej]
        by_cases eji : j = i
        · subst eji
          rw [ho] at ho'
          cases ho'
          exact he e hem hb
        · rw [if_neg eji] at hj
          exact hcl j o' ho' hj e hem hb
    · intro t ht
      cases hdst : o.dst with
      | none => rw [hf2 hdst]; exact hfr t ht
      | some d0 =>
        rw [hf1 d0 hdst]
        have hne : t ≠ d0 := by
          rintro rfl
          have := (Array.all_eq_true_iff_forall_mem.1 ht) o (Array.mem_of_getElem? ho)
          rw [hdst] at this
          simp at this
        show (if t = d0 then v else f t) = _
        rw [if_neg hne]
        exact hfr t ht
    · intro i' o' d ho' hd' hl'
      by_cases e : i' = i
      · subst e
        rw [ho] at ho'
        cases ho'
        rw [hf1 d hd']
        show R i' (if d = d then v else f d)
        rw [if_pos rfl]
        exact hRi (by rw [hd']; rfl)
      · rw [Array.getD_eq_getD_getElem?, Array.getElem?_setIfInBounds, if_neg (Ne.symm e), ← Array.getD_eq_getD_getElem?] at hl'
        have hold := hR i' o' d ho' hd' hl'
        cases hdst : o.dst with
        | none => rw [hf2 hdst]; exact hold
        | some d0 =>
          rw [hf1 d0 hdst]
          have hne : d ≠ d0 := by
            rintro rfl
            exact e (opsOk_once hok ho' ho hd' hdst)
          show R i' (if d = d0 then v else f d)
          rw [if_neg hne]
          exact hold
  · rintro l a w hl ⟨f, p, rfl, hG, hp, hcs, hcl, hfr, hR⟩ hr
    have hall := ready_all hback hl hr
    have hpl : p = cs.length := by
      rcases Nat.eq_or_lt_of_le hp with h1 | h1
      · exact h1
      · exfalso
        have hlt := (chain_at hch h1).1
        have h2 := hall _ hlt
        rw [getD_bool l _ (by omega) true false] at h2
        have := (hcs p h1).1 h2
        omega
    subst hpl
    exact done f w hG hfr fun i o d ho hd => hR i o d ho hd (hall i (Array.getElem?_eq_some_iff.1 ho).1)
  · have h : ∀ m, unl (Array.replicate ops.size false) m ≤ m := by
      intro m
      induction m with
      | zero => exact Nat.le_refl _
      | succ m ih => rw [unl]; split <;> omega
    exact h _
  · intro k hk
    have hlt := (chain_at hch hk).1
    rw [Array.getD_eq_getD_getElem?, Array.getElem?_replicate, if_pos hlt]
    simp
  · intro i o ho hi
    have hlt := (Array.getElem?_eq_some_iff.1 ho).1
    rw [Array.getD_eq_getD_getElem?, Array.getElem?_replicate, if_pos hlt] at hi
    cases hi
  · intro i o d ho _ hl
    have hi := (Array.getElem?_eq_some_iff.1 ho).1
    rw [Array.getD_eq_getD_getElem?, Array.getElem?_replicate, if_pos hi] at hl
    cases hl
/-- The frame behind an operation. -/
def upd (f : Nat → Value) : Option Nat → Value → Nat → Value
  | none, _ => f
  | some d, v => fun t => if t = d then v else f t
/-- An operation that isn't one of the writers. -/
theorem StepPh.reg {n fuel : Nat} {cs : List Nat} {a0 : Act} {R : Nat → Value → Prop} {G : Nat → (Nat → Value) → World → Prop} {i : Nat} {o : Oper} (hg : o.guard = none) (hi : cs.contains i = false) (hd : ∀ d, o.dst = some d → d < n)
    (h : ∀ f w p, G p f w → (∀ k, k < cs.length → reach ops fuel i (cs.getD k 0) = true → k < p) → (∀ k, k < cs.length → (reach ops fuel (cs.getD k 0) i = true ∨ cs.getD k 0 = i) → p ≤ k) →
      (∀ t, dstFree ops t = true → f t = a0.tmps.getD t undef) → (∀ j o' d, ops[j]? = some o' → o'.dst = some d → waits o j = true → R j (f d)) →
      ∀ K : Act → World → Prop, (∀ v w', R i v → G p (upd f o.dst v) w' → K ((Fr n f).put o.dst v) w') → o.wp P (Fr n f) w K Q) : StepPh P ops Q n fuel cs a0 R G i o := by
  intro f w p hG hup hdn hfr hp
  refine ⟨hg, fun K hK => h f w p hG hup hdn hfr hp K fun v w' hv hG' => ?_⟩
  rw [if_neg (by rw [hi]; simp)] at hK
  cases ho : o.dst with
  | none =>
    rw [ho] at hG' hK
    exact hK v w' f rfl (fun d hd => by cases hd) (fun _ => rfl) (fun e => by cases e) hG'
  | some d =>
    rw [ho] at hG' hK
    rw [fr_put (hd d ho)]
    exact hK v w' _ (fr_put (hd d ho)) (fun d' hd' => by cases hd'; rfl) (fun e => by cases e) (fun _ => hv) hG'
/-- A writer, the k-th. -/
theorem StepPh.wr {n fuel : Nat} {cs : List Nat} {a0 : Act} {R : Nat → Value → Prop} {G : Nat → (Nat → Value) → World → Prop} {i : Nat} {o : Oper} (k : Nat) (hg : o.guard = none) (hk : k < cs.length) (hi : cs.getD k 0 = i) (hd : ∀ d, o.dst = some d → d < n)
    (hup : ∀ j, j < k → reach ops fuel i (cs.getD j 0) = true)
    (h : ∀ f w, G k f w →
      (∀ t, dstFree ops t = true → f t = a0.tmps.getD t undef) → (∀ j o' d, ops[j]? = some o' → o'.dst = some d → waits o j = true → R j (f d)) →
      ∀ K : Act → World → Prop, (∀ v w', (o.dst.isSome = true → R i v) → G (k + 1) (upd f o.dst v) w' → K ((Fr n f).put o.dst v) w') → o.wp P (Fr n f) w K Q) : StepPh P ops Q n fuel cs a0 R G i o := by
  intro f w p hG hup' hdn hfr hp
  have hpk : p = k := by
    have h1 := hdn k hk (.inr hi)
    rcases Nat.eq_zero_or_pos k with h2 | h2
    · omega
    · have := hup' (k - 1) (by omega) (hup (k - 1) (by omega))
      omega
  subst hpk
  have hc : cs.contains i = true := List.contains_iff_mem.2 (by rw [← hi, List.getD_eq_getElem?_getD, List.getElem?_eq_getElem hk]; exact List.getElem_mem hk)
  refine ⟨hg, fun K hK => h f w hG hfr hp K fun v w' hv hG' => ?_⟩
  rw [if_pos hc] at hK
  cases ho : o.dst with
  | none =>
    rw [ho] at hG' hK
    exact hK v w' f rfl (fun d hd => by cases hd) (fun _ => rfl) (fun e => by cases e) hG'
  | some d =>
    rw [ho] at hG' hK
    rw [fr_put (hd d ho)]
    exact hK v w' _ (fr_put (hd d ho)) (fun d' hd' => by cases hd'; rfl) (fun e => by cases e) (fun _ => hv (by rw [ho]; rfl)) hG'
end
end Go.Proofs.YtdhpemkmfkcadaaDoor
