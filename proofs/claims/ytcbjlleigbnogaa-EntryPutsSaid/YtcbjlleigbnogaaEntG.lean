/-
  entry: what is put comes back, and what is got is put so; plain facts.
-/
import Derived.Test.YtcbjlleigbnogaaEntF
namespace Go.Proofs.Ytcbjlleigbnogaa
open Go.RowKit Go.Deep
set_option linter.unusedVariables false
set_option linter.unusedSimpArgs false

theorem bytesK_length (ws : List Nat) (xs : List Int) : ∀ k, (bytesK ws xs k).length = offK ws k
  | 0 => rfl
  | k + 1 => by rw [bytesK, List.length_append, bytesK_length ws xs k, Oc.numB_length, offK]
theorem bytesK_at (ws : List Nat) (xs : List Int) (k : Nat) : ∀ j, k < j → ((bytesK ws xs j).drop (offK ws k)).take (ws.getD k 0) = Oc.numB (ws.getD k 0) (xs.getD k 0).toNat
  | 0, h => by omega
  | j + 1, h => by
    rcases Nat.lt_succ_iff_lt_or_eq.1 h with h | rfl
    · have h1 := offK_mono ws (k + 1) j h
      have h2 : offK ws (k + 1) = offK ws k + ws.getD k 0 := rfl
      have h3 := bytesK_length ws xs j
      rw [bytesK, List.drop_append_of_le_length (by omega), List.take_append_of_le_length (by rw [List.length_drop]; omega)]
      exact bytesK_at ws xs k j h
    · have h3 := bytesK_length ws xs k
      rw [bytesK, ← h3, List.drop_left, List.take_of_length_le (by rw [Oc.numB_length]; exact Nat.le_refl _)]
theorem fit_back {n : Nat} {x : Int} (h : Oc.FitN n x) : ((Oc.getN (Oc.numB n x.toNat) : Nat) : Int) = x := by
  obtain ⟨h0, h1⟩ := h
  have h4 : ((256 ^ n : Nat) : Int) = (256 : Int) ^ n := by rw [Int.natCast_pow]; rfl
  rw [Oc.getN_numB n x.toNat (by rw [← h4] at h1; omega)]
  omega

theorem put_back {ws : List Nat} {xs : List Int} (h : fit4 ws xs = true) : getOk (put4 ws xs) ws = true ∧ ∀ k, k < 4 → get4 (put4 ws xs) ws k = xs.getD k 0 := by
  have e : put4 ws xs = ⟨(bytesK ws xs 4).toArray⟩ := by unfold put4; rw [h]; rfl
  have hz : getOk (put4 ws xs) ws = true := by
    unfold getOk
    rw [e, Oc.size_of', bytesK_length]
    exact decide_eq_true rfl
  refine ⟨hz, fun k hk => ?_⟩
  unfold get4
  rw [if_pos hz]
  unfold numAt
  rw [e]
  show ((Oc.getN (List.take _ (List.drop _ (bytesK ws xs 4))) : Nat) : Int) = _
  rw [bytesK_at ws xs k 4 hk]
  exact fit_back (fit4_iff.1 h k hk)
theorem put_none {ws : List Nat} {xs : List Int} (h : fit4 ws xs = false) (h0 : 0 < offK ws 4) : getOk (put4 ws xs) ws = false ∧ ∀ k, get4 (put4 ws xs) ws k = 0 := by
  have e : put4 ws xs = ⟨#[]⟩ := by unfold put4; rw [h]; rfl
  have hz : getOk (put4 ws xs) ws = false := by
    unfold getOk
    rw [e]
    exact decide_eq_false (by show ¬ (0 = _); omega)
  refine ⟨hz, fun k => ?_⟩
  unfold get4
  rw [hz]
  rfl

/-- Twenty bytes that were read: their numbers fit, and give just these bytes. -/
theorem getN_fit (l : List UInt8) : Oc.FitN l.length (Oc.getN l : Nat) := by
  have h := Oc.getN_lt l
  refine ⟨by omega, ?_⟩
  have h4 : ((256 ^ l.length : Nat) : Int) = (256 : Int) ^ l.length := by rw [Int.natCast_pow]; rfl
  rw [← h4]
  exact Int.ofNat_lt.2 h
theorem numB_mod (a c m : Nat) : ∀ n, n ≤ m → Oc.numB n (a + c * 256 ^ m) = Oc.numB n a
  | 0, _ => rfl
  | n + 1, h => by
    rw [Oc.numB, Oc.numB, numB_mod a c m n (by omega)]
    congr 1
    have e : c * 256 ^ m = 256 ^ n * (256 * (c * 256 ^ (m - n - 1))) := by
      rw [show m = n + (1 + (m - n - 1)) from by omega, Nat.pow_add, Nat.pow_add, show n + (1 + (m - n - 1)) - n - 1 = m - n - 1 from by omega, Nat.pow_one]
      rw [← Nat.mul_assoc, Nat.mul_comm c, Nat.mul_assoc, Nat.mul_comm c, Nat.mul_assoc, Nat.mul_comm _ c]
    rw [e, Nat.add_mul_div_left _ _ (Nat.pow_pos (by decide))]
    apply UInt8.toNat.inj
    rw [UInt8.toNat_ofNat', UInt8.toNat_ofNat']
    omega
theorem numB_getN : ∀ l : List UInt8, Oc.numB l.length (Oc.getN l) = l := by
  intro l
  induction l with
  | nil => rfl
  | cons c l ih =>
    have hl := Oc.getN_lt l
    rw [Oc.getN_cons, List.length_cons, Oc.numB]
    congr 1
    · rw [Nat.add_comm, Nat.add_mul_div_right _ _ (Nat.pow_pos (by decide)), Nat.div_eq_of_lt hl, Nat.zero_add]
      simp
    · rw [Nat.add_comm, numB_mod _ _ _ _ (Nat.le_refl _)]
      exact ih
end Go.Proofs.Ytcbjlleigbnogaa
