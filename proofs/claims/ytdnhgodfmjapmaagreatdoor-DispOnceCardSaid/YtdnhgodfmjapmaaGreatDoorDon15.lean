/- A part. -/
import Derived.Test.YtdnhgodfmjapmaaGreatDoorDon10
import Derived.Test.YtdnhgodfmjapmaaGreatDoorDon11
set_option linter.unusedVariables false
set_option linter.unusedSimpArgs false
namespace Go.Proofs.YtdnhgodfmjapmaaGreatDoor
open Go.RowKit Go.Deep
section
variable {P : Program} {ops : Array Oper} {Q : Exit → Act → World → Prop}
theorem region_last' {id n : Nat} {a0 : Act} {w0 : World} (hs : a0.tmps.size = n) (hd : a0.defers = []) (hm : P.follows .mixedOrders = true) (hok : opsOk n ops = true)
    (s : Nat) (os : Oper) (hos : ops[s]? = some os) (hgs : os.guard = none) (hall : (List.range ops.size).all (fun i => i == s || waits os i || (List.range ops.size).any fun k => waits os k && (match ops[k]? with | some ok => waits ok i | none => false)) = true)
    (R : Nat → Value → World → Prop) (H : World → Prop) (Gr : World → World → Prop)
    (hrefl : ∀ w, Gr w w) (hst : ∀ i v w w', Gr w w' → R i v w → R i v w') (h0 : H w0.drew)
    (step : ∀ i o, i ≠ s → ops[i]? = some o → ∀ f w, H w → (∀ t, dstFree ops t = true → f t = a0.tmps.getD t undef) → (∀ j o' d, ops[j]? = some o' → o'.dst = some d → waits o j = true → R j (f d) w) →
      if Region.wanted o (yielded ops (Fr n f).tmps) = true then ∀ K : Act → World → Prop, (∀ v w', R i v w' → H w' → Gr w w' → K ((Fr n f).put o.dst v) w') → o.wp P (Fr n f) w K Q else R i undef w)
    (last : ∀ f w, H w → (∀ t, dstFree ops t = true → f t = a0.tmps.getD t undef) → (∀ i o d, i ≠ s → ops[i]? = some o → o.dst = some d → R i (f d) w) → os.wp P (Fr n f) w (fun a w' => Q .normal a w') Q) :
    (Code.region id ops true).wp P Q a0 w0 := by
  have h := region_last (id := id) (n := n) (f0 := fun t => a0.tmps.getD t undef) (w0 := w0) (Q := Q) hm hok s os hos hgs hall R H Gr hrefl hst h0 step last
  rw [← fr_of hs hd] at h
  exact h
end
def RStr (s : ByteArray) (v : Value) (w : World) : Prop := ∃ o, v = .slice (some ⟨o, 0, none⟩) 1 1 ∧ w.heap[o]? = some (.cells #[.string s] 9 (0, 0))
def RNew (B : Nat) (cs : Array Value) (t : TypeId) (v : Value) (w : World) : Prop := ∃ b, v = .pointer (some ⟨b, 0, none⟩) ∧ B ≤ b ∧ w.heap[b]? = some (.cells cs t (0, 0))
theorem RStr.keep {s : ByteArray} {v : Value} {w w' : World} (h : RStr s v w) (hc : Chg (fun _ => False) w w') : RStr s v w' := by
  obtain ⟨o, e, hb⟩ := h
  exact ⟨o, e, hc.heap hb (fun x => x)⟩
theorem RNew.keep {B : Nat} {cs : Array Value} {t : TypeId} {v : Value} {w w' : World} (h : RNew B cs t v w) (hc : Chg (fun _ => False) w w') : RNew B cs t v w' := by
  obtain ⟨b, e, hb, hx⟩ := h
  exact ⟨b, e, hb, hc.heap hx (fun x => x)⟩
theorem RStr.strs {s : ByteArray} {v : Value} {w : World} (h : RStr s v w) : ∃ o, v = .slice (some ⟨o, 0, none⟩) 1 1 ∧ Strs w 0 v [s] := by
  obtain ⟨o, e, hb⟩ := h
  refine ⟨o, e, some ⟨o, 0, none⟩, 1, e, .inr ⟨o, 0, rfl, Nat.zero_le _, fun i hi => ?_⟩⟩
  obtain rfl : i = 0 := by simp at hi; exact hi
  simp [World.cell?, hb]
theorem set4_new {W0 w' : World} {b : Nat} {t : TypeId} {c0 c1 c2 c3 : Value} (hH : Chg (fun _ => False) W0 w') (hb : W0.heap.size ≤ b) (hblk : w'.heap[b]? = some (.cells #[c0, c1, c2, c3] t (0, 0))) (v0 v1 v2 v3 : Value) :
    Chg (fun _ => False) W0 ((((w'.setCell ⟨b, 0, none⟩ v0).setCell ⟨b, 1, none⟩ v1).setCell ⟨b, 2, none⟩ v2).setCell ⟨b, 3, none⟩ v3) ∧ ((((w'.setCell ⟨b, 0, none⟩ v0).setCell ⟨b, 1, none⟩ v1).setCell ⟨b, 2, none⟩ v2).setCell ⟨b, 3, none⟩ v3).heap[b]? = some (.cells #[v0, v1, v2, v3] t (0, 0)) := by
  have hs : ∀ (W : World) (i : Nat) (v : Value), Chg (fun q => q = b) W (W.setCell ⟨b, i, none⟩ v) := fun W i v => Chg.setCell (S := fun q => q = b) (p := ⟨b, i, none⟩) (Chg.refl _ _) (fun _ => rfl) _
  have h4 := (((hs w' 0 v0).trans (hs _ 1 v1) (fun _ _ x => x)).trans (hs _ 2 v2) (fun _ _ x => x)).trans (hs _ 3 v3) (fun _ _ x => x)
  refine ⟨hH.trans h4 (fun i hi hx => by omega), ?_⟩
  have e1 := heap_setCell_same w' b 0 _ _ v0 hblk
  have e2 := heap_setCell_same _ b 1 _ _ v1 e1
  have e3 := heap_setCell_same _ b 2 _ _ v2 e2
  exact heap_setCell_same _ b 3 _ _ v3 e3
end Go.Proofs.YtdnhgodfmjapmaaGreatDoor
