/- A part. -/
import Derived.Test.YtdnhgodfmjapmaaGreatDoorDon14
import Derived.Test.YtdnhgodfmjapmaaGreatDoorDon32
set_option linter.unusedVariables false
set_option linter.unusedSimpArgs false
namespace Go.Proofs.YtdnhgodfmjapmaaGreatDoor
open Go.RowKit Go.Deep
structure KE where
  h : Nat
  at_ : Nat
  born : Nat
def KE.ok (k : KE) : Prop := k.h < 4294967296 ∧ k.at_ ≤ 1099511627776 ∧ k.born ≤ 1099511627776
def lastR : List KE → Nat → Nat
  | [], _ => 0
  | k :: r, b => if k.h % 8 = b then r.length + 1 else lastR r b
theorem lastR_le : ∀ (R : List KE) (b : Nat), lastR R b ≤ R.length
  | [], _ => Nat.le_refl _
  | k :: r, b => by
    unfold lastR
    split
    · exact Nat.le_refl _
    · have := lastR_le r b; simp only [List.length_cons]; omega
def linkXs (k : KE) (a : Nat) : List Int := [(k.h : Int), (k.at_ : Int), (k.born : Int), (a : Int)]
def linkW : List Nat := [5, 6, 6, 3]
def linksB : List KE → List UInt8
  | [] => []
  | k :: r => linksB r ++ bytesK linkW (linkXs k (lastR r (k.h % 8))) 4
theorem link_size (xs : List Int) : (bytesK linkW xs 4).length = 20 := by rw [bytesK_length]; rfl
theorem linksB_length : ∀ R : List KE, (linksB R).length = 20 * R.length
  | [] => rfl
  | k :: r => by rw [linksB, List.length_append, link_size, linksB_length r, List.length_cons]; omega
def slotsN (f : Nat → Nat) (l : List Nat) : List UInt8 := l.flatMap fun b => Oc.numB 3 (f b)
def slotsB (R : List KE) : List UInt8 := slotsN (lastR R) (List.range 8)
theorem slotsN_length (f : Nat → Nat) : ∀ l, (slotsN f l).length = 3 * l.length
  | [] => rfl
  | b :: l => by
    show (Oc.numB 3 (f b) ++ slotsN f l).length = _
    rw [List.length_append, Oc.numB_length, slotsN_length f l, List.length_cons]
    omega
theorem slotsN_app (f : Nat → Nat) (l m : List Nat) : slotsN f (l ++ m) = slotsN f l ++ slotsN f m := List.flatMap_append
theorem slotsN_congr {f g : Nat → Nat} : ∀ {l : List Nat}, (∀ b ∈ l, f b = g b) → slotsN f l = slotsN g l
  | [], _ => rfl
  | b :: l, h => by
    show Oc.numB 3 (f b) ++ slotsN f l = Oc.numB 3 (g b) ++ slotsN g l
    rw [h b (List.mem_cons_self ..), slotsN_congr fun x hx => h x (List.mem_cons_of_mem _ hx)]
theorem range_split {b n : Nat} (h : b < n) : ∃ t, List.range n = List.range b ++ b :: t ∧ b ∉ t := by
  have hx : List.range n = List.range b ++ (List.range (n - b)).map (b + ·) := by
    have := List.range_add (n := b) (m := n - b)
    rw [← this]; congr 1; omega
  obtain ⟨m, hm⟩ : ∃ m, n - b = m + 1 := ⟨n - b - 1, by omega⟩
  refine ⟨(List.range m).map (fun x => b + (x + 1)), ?_, fun hx => ?_⟩
  · rw [hx, hm, List.range_succ_eq_map, List.map_cons, List.map_map]
    rfl
  · obtain ⟨x, _, hx⟩ := List.mem_map.1 hx
    omega
theorem slotsB_length (R : List KE) : (slotsB R).length = 24 := by rw [slotsB, slotsN_length, List.length_range]
theorem slots_at (R : List KE) {b : Nat} (h : b < 8) : ((slotsB R).drop (3 * b)).take 3 = Oc.numB 3 (lastR R b) := by
  obtain ⟨t, e, _⟩ := range_split h
  have h1 := slotsN_length (lastR R) (List.range b)
  rw [List.length_range] at h1
  have h2 : slotsN (lastR R) (b :: t) = Oc.numB 3 (lastR R b) ++ slotsN (lastR R) t := rfl
  rw [slotsB, e, slotsN_app, ← h1, List.drop_left, h2, List.take_append_of_le_length (by rw [Oc.numB_length]; exact Nat.le_refl _), List.take_of_length_le (by rw [Oc.numB_length]; exact Nat.le_refl _)]
theorem putB_mid (A M T M' : List UInt8) (h : M'.length = M.length) (h0 : M' ≠ []) : putB (A ++ (M ++ T)) A.length M' = A ++ (M' ++ T) := by
  unfold putB
  rw [if_neg h0]
  have e : A.length + M'.length - (A ++ (M ++ T)).length = 0 := by simp only [List.length_append]; omega
  rw [e, List.replicate_zero, List.append_nil, List.take_left]
  have e2 : (A ++ (M ++ T)).drop (A.length + M'.length) = T := by
    rw [h, ← List.append_assoc, ← List.length_append, List.drop_left]
  rw [e2, List.append_assoc]
theorem slots_put (R : List KE) (k : KE) : putB (slotsB R) (3 * (k.h % 8)) (Oc.numB 3 (R.length + 1)) = slotsB (k :: R) := by
  have hb : k.h % 8 < 8 := Nat.mod_lt _ (by decide)
  obtain ⟨b, hbe⟩ : ∃ b, b = k.h % 8 := ⟨_, rfl⟩
  rw [← hbe] at hb ⊢
  obtain ⟨t, e, ht⟩ := range_split hb
  have h1 := slotsN_length (lastR R) (List.range b)
  rw [List.length_range] at h1
  have hof : ∀ x, x ≠ b → lastR (k :: R) x = lastR R x := fun x hx => by
    unfold lastR
    rw [if_neg (by omega)]
    cases R <;> rfl
  have hon : lastR (k :: R) b = R.length + 1 := by unfold lastR; rw [if_pos hbe.symm]
  have h2 : ∀ f : Nat → Nat, slotsN f (b :: t) = Oc.numB 3 (f b) ++ slotsN f t := fun _ => rfl
  have h3 : slotsN (lastR (k :: R)) (List.range b) = slotsN (lastR R) (List.range b) := slotsN_congr fun x hx => hof x (by have := List.mem_range.1 hx; omega)
  have h4 : slotsN (lastR (k :: R)) t = slotsN (lastR R) t := slotsN_congr fun x hx => hof x (fun hx' => ht (hx' ▸ hx))
  have hn0 : Oc.numB 3 (R.length + 1) ≠ [] := fun hx => by
    have := Oc.numB_length 3 (R.length + 1)
    rw [hx] at this; simp at this
  rw [slotsB, slotsB, e, slotsN_app, slotsN_app, h2, h2, h3, h4, hon, ← h1]
  exact putB_mid _ _ _ _ (by rw [Oc.numB_length, Oc.numB_length]) hn0
theorem links_put (R : List KE) (k : KE) : putB (linksB R) (20 * R.length) (bytesK linkW (linkXs k (lastR R (k.h % 8))) 4) = linksB (k :: R) := by
  have h := linksB_length R
  have h0 : bytesK linkW (linkXs k (lastR R (k.h % 8))) 4 ≠ [] := fun hx => by
    have := link_size (linkXs k (lastR R (k.h % 8)))
    rw [hx] at this; simp at this
  rw [linksB, ← h]
  unfold putB
  rw [if_neg h0]
  have e1 : (linksB R ++ List.replicate ((linksB R).length + (bytesK linkW (linkXs k (lastR R (k.h % 8))) 4).length - (linksB R).length) 0).take (linksB R).length = linksB R := List.take_left
  rw [e1, List.drop_of_length_le (by simp only [List.length_append, List.length_replicate]; omega), List.append_nil]
theorem link_fit {k : KE} (hk : k.ok) {a : Nat} (ha : a < 16777216) : fit4 linkW (linkXs k a) = true := by
  obtain ⟨h1, h2, h3⟩ := hk
  refine fit4_iff.2 fun i hi => ?_
  match i, hi with
  | 0, _ => exact ⟨Int.natCast_nonneg _, by show ((k.h : Nat) : Int) < 256 ^ 5; omega⟩
  | 1, _ => exact ⟨Int.natCast_nonneg _, by show ((k.at_ : Nat) : Int) < 256 ^ 6; omega⟩
  | 2, _ => exact ⟨Int.natCast_nonneg _, by show ((k.born : Nat) : Int) < 256 ^ 6; omega⟩
  | 3, _ => exact ⟨Int.natCast_nonneg _, by show ((a : Nat) : Int) < 256 ^ 3; omega⟩
end Go.Proofs.YtdnhgodfmjapmaaGreatDoor
