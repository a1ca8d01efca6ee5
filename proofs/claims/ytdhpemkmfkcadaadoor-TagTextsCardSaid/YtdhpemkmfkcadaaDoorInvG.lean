/-
  A drawn region with guards ('&&', '||'), by an invariant: what an operation that isn't wanted yields; the frame behind the region, written out again.
-/
import Derived.Test.YtdhpemkmfkcadaaDoorInv
namespace Go.Proofs.YtdhpemkmfkcadaaDoor
open Go.RowKit Go.Deep
set_option linter.unusedVariables false
set_option linter.unusedSimpArgs false

/-- A guarded operation's slot: v where its guard lets it be done. -/
def gv (c : Bool) (v : Value) : Value := bif c then v else undef
theorem gv_true (v : Value) : gv true v = v := rfl
theorem gv_false (v : Value) : gv false v = undef := rfl
section
variable {P : Program} {ops : Array Oper} {Q : Exit → Act → World → Prop}
/-- An operation that waits on operation j's Boolean. -/
theorem StepAt.guarded {n : Nat} {a0 : Act} {R : Nat → Value → World → Prop} {G : World → Prop} {Gr : World → World → Prop} {i : Nat} {o : Oper} (j d : Nat) (want : Bool) (o' : Oper) (hg : o.guard = some (j, want)) (ho' : ops[j]? = some o') (hd : o'.dst = some d) (hdn : d < n) (hw : waits o j = true)
    (c : Bool) (hc : ∀ w v, R j v w → ((match v with | .bool b => some b | _ => none) = some want ↔ c = true)) (h0 : c = false → ∀ w, R i undef w)
    (h : c = true → ∀ f w, G w → (∀ t, dstFree ops t = true → f t = a0.tmps.getD t undef) → (∀ j o' d, ops[j]? = some o' → o'.dst = some d → waits o j = true → R j (f d) w) →
      ∀ K : Act → World → Prop, (∀ v w', R i v w' → G w' → Gr w w' → K ((Fr n f).put o.dst v) w') → o.wp P (Fr n f) w K Q) : StepAt P ops Q n a0 R G Gr i o := by
  intro f w hG hfr hp
  have h1 := hc w (f d) (hp j o' d ho' hd hw)
  have h2 : Region.wanted o (yielded ops (Fr n f).tmps) = c := by
    unfold Region.wanted
    rw [hg]
    show ((yielded ops (Fr n f).tmps j) == some want) = c
    have h3 : yielded ops (Fr n f).tmps j = (match f d with | .bool b => some b | _ => none) := by
      unfold yielded
      rw [ho']
      show (match ((some o'.dst).bind id).bind ((Fr n f).tmps[·]?) with | some (.bool b) => some b | _ => none) = _
      rw [hd]
      show (match (Fr n f).tmps[d]? with | some (.bool b) => some b | _ => none) = _
      rw [fr_some hdn]
      cases f d <;> rfl
    rw [h3]
    rw [Bool.eq_iff_iff, ← h1, beq_iff_eq]
  rw [h2]
  cases hcc : c with
  | true => rw [if_pos rfl]; exact h hcc f w hG hfr hp
  | false => rw [if_neg (by decide)]; exact h0 hcc w
end
/-- The frame behind a region: what it wrote, at D, anew; all else as it was. -/
def mixL (D : List Nat) (f : Nat → Value) : Nat → List Value → List Value
  | _, [] => []
  | i, v :: l => (bif D.elem i then f i else v) :: mixL D f (i + 1) l
theorem mixL_eq (D : List Nat) (f : Nat → Value) : ∀ (l : List Value) (k : Nat), (∀ i, i < l.length → D.elem (k + i) = false → f (k + i) = l.getD i undef) → mixL D f k l = (List.range' k l.length).map f
  | [], _, _ => rfl
  | v :: l, k, h => by
    unfold mixL
    rw [List.length_cons, List.range'_succ, List.map_cons]
    congr 1
    · have h0 := h 0 (by simp)
      rw [Nat.add_zero] at h0
      cases hd : D.elem k with
      | true => rfl
      | false => exact (h0 hd).symm
    · refine mixL_eq D f l (k + 1) fun i hi hd => ?_
      have := h (i + 1) (by simp; omega)
      rw [Nat.add_comm i 1, ← Nat.add_assoc] at this
      rw [this hd]
      simp [List.getD_eq_getElem?_getD, Nat.add_comm 1 i]
theorem fr_back {ops : Array Oper} {n : Nat} {f : Nat → Value} {l : List Value} {D : List Nat} (hs : l.length = n) (hD : ((List.range n).all fun t => D.elem t || dstFree ops t) = true) (hfr : ∀ t, dstFree ops t = true → f t = (⟨l.toArray, []⟩ : Act).tmps.getD t undef) :
    Fr n f = ⟨(mixL D f 0 l).toArray, []⟩ := by
  unfold Fr
  rw [mixL_eq D f l 0 (fun i hi hd => ?_), hs, List.range_eq_range']
  rw [Nat.zero_add] at hd ⊢
  have h1 := (List.all_eq_true.1 hD) i (List.mem_range.2 (by omega))
  rw [hd, Bool.false_or] at h1
  rw [hfr i h1]
  simp [List.getD_eq_getElem?_getD, hi]
end Go.Proofs.YtdhpemkmfkcadaaDoor
