/-
  Slices that came in, as the walks speak of them; what is written is read: numbers.
-/
import Derived.Test.YtelpkniockhjgaaGreatRef
import Derived.ProofKit
namespace Go.Proofs.YtelpkniockhjgaaGreat.Oc
open Go.RowKit Go.Deep

theorem add_none (b o i : Nat) : (⟨b, o, none⟩ : Addr).add i = ⟨b, o + i, none⟩ := by unfold Addr.add; split <;> simp_all

theorem ints_of {k : IntKind} {w : World} {x : Addr} {len cap : Nat} {zs : List Int} (hl : len ≤ cap) (hz : zs.length = cap) (hcell : ∀ i, i < zs.length → w.cell? (x.add i) = some (.int k (zs.getD i 0))) :
    IntsOf k w (.slice (some x) len cap) (zs.take len) := by
  have hlen : (zs.take len).length = len := by rw [List.length_take]; omega
  refine ⟨some x, cap, by rw [hlen], ?_⟩
  rcases Nat.eq_zero_or_pos len with h | h
  · subst h; exact .inl rfl
  · right
    obtain ⟨b, off, spot⟩ := x
    have hc := hcell 0 (by omega)
    have hspot : spot = none := by simpa [Addr.add] using World.cell?_spot hc
    subst hspot
    refine ⟨b, off, rfl, fun i hi => ?_⟩
    rw [hlen] at hi
    have := hcell i (by omega)
    rw [add_none] at this
    simpa [List.getD_eq_getElem?_getD, List.getElem?_take, hi] using this

theorem strs_of {w : World} {x : Addr} {len cap : Nat} {ss : List ByteArray} (hl : len ≤ cap) (hz : ss.length = cap) (hcell : ∀ i, i < ss.length → w.cell? (x.add i) = some (.string (ss.getD i ByteArray.empty))) :
    Strs w 0 (.slice (some x) len cap) (ss.take len) := by
  have hlen : (ss.take len).length = len := by rw [List.length_take]; omega
  refine ⟨some x, cap, by rw [hlen], ?_⟩
  rcases Nat.eq_zero_or_pos len with h | h
  · subst h; exact .inl rfl
  · right
    obtain ⟨b, off, spot⟩ := x
    have hc := hcell 0 (by omega)
    have hspot : spot = none := by simpa [Addr.add] using World.cell?_spot hc
    subst hspot
    refine ⟨b, off, rfl, Nat.zero_le _, fun i hi => ?_⟩
    rw [hlen] at hi
    have := hcell i (by omega)
    rw [add_none] at this
    rw [show (⟨#[]⟩ : ByteArray) = ByteArray.empty from rfl]
    simpa [List.getD_eq_getElem?_getD, List.getElem?_take, hi] using this

/-- The bytes of a list, as a string. -/
theorem extract_of (l : List UInt8) (a b : Nat) : (⟨l.toArray⟩ : ByteArray).extract a b = ⟨((l.take b).drop a).toArray⟩ := by
  apply ByteArray.ext
  simp [ByteArray.data_extract, List.extract_eq_take_drop, List.drop_take]

theorem getN_cons (c : UInt8) (l : List UInt8) : getN (c :: l) = c.toNat * 256 ^ l.length + getN l := by
  have h : ∀ (l : List UInt8) (a : Nat), l.foldl (fun a c => 256 * a + c.toNat) a = a * 256 ^ l.length + getN l := by
    intro l
    induction l with
    | nil => intro a; simp [getN]
    | cons d l ih =>
      intro a
      rw [List.foldl_cons, ih, List.length_cons, Nat.pow_succ]
      unfold getN
      rw [List.foldl_cons, ih (256 * 0 + d.toNat)]
      unfold getN
      rw [Nat.add_mul, Nat.mul_zero, Nat.zero_add, ← Nat.add_assoc, Nat.mul_comm 256 a, Nat.mul_assoc, Nat.mul_comm 256]
  unfold getN
  rw [List.foldl_cons, h]
  simp [getN]

theorem getN_numB : ∀ n x : Nat, x < 256 ^ n → getN (numB n x) = x := by
  intro n
  induction n with
  | zero => intro x hx; simp at hx; subst hx; rfl
  | succ n ih =>
    intro x hx
    rw [numB, getN_cons, numB_length, UInt8.toNat_ofNat']
    have hp : 0 < 256 ^ n := Nat.pow_pos (by decide)
    have hd : x / 256 ^ n < 256 := by rw [Nat.div_lt_iff_lt_mul hp, Nat.mul_comm, ← Nat.pow_succ]; exact hx
    rw [Nat.mod_eq_of_lt hd]
    have hr : getN (numB n x) = x % 256 ^ n := by
      have hm : ∀ y, numB n y = numB n (y % 256 ^ n) := by
        intro y
        clear ih hx hd
        have : ∀ m, m ≤ n → numB m y = numB m (y % 256 ^ n) := by
          intro m
          induction m with
          | zero => intro _; rfl
          | succ m ihm =>
            intro hm
            rw [numB, numB, ihm (by omega)]
            congr 1
            apply UInt8.toNat_inj.1
            rw [UInt8.toNat_ofNat', UInt8.toNat_ofNat']
            have e : 256 ^ n = 256 ^ m * (256 * 256 ^ (n - m - 1)) := by rw [← Nat.pow_succ', ← Nat.pow_add]; congr 1; omega
            rw [e, Nat.mod_mul_right_div_self, Nat.mod_mul_right_mod]
        exact this n (Nat.le_refl _)
      rw [hm x]
      exact ih _ (Nat.mod_lt _ hp)
    rw [hr]
    exact Nat.div_add_mod' x (256 ^ n)

theorem cutS_read (l r : List UInt8) : cutS ⟨(l ++ r).toArray⟩ l.length = (⟨l.toArray⟩, ⟨r.toArray⟩, 0) := by
  have hs : (⟨(l ++ r).toArray⟩ : ByteArray).size = l.length + r.length := by simp [ByteArray.size]
  rw [cutS, if_neg (by omega), if_neg (by rw [hs]; omega), extract_of, extract_of, hs, Int.toNat_natCast, List.take_left, ← List.length_append, List.take_length, List.drop_left]
  rfl

theorem numS_read (n x : Nat) (h1 : 1 ≤ n) (h7 : n ≤ 7) (hx : x < 256 ^ n) (r : List UInt8) : numS ⟨(numB n x ++ r).toArray⟩ n = (x, ⟨r.toArray⟩, 0) := by
  have hc := cutS_read (numB n x) r
  rw [numB_length] at hc
  rw [numS, if_pos ⟨by omega, by omega⟩, hc]
  simp [getN_numB n x hx]

theorem numS_empty (n : Nat) (h1 : 1 ≤ n) (h7 : n ≤ 7) : numS ⟨#[]⟩ n = (0, ⟨#[]⟩, 3) := by
  have hc : cutS ⟨#[]⟩ n = (⟨#[]⟩, ⟨#[]⟩, 3) := by rw [cutS, if_neg (by omega), if_pos (by simp [ByteArray.size]; omega)]
  rw [numS, if_pos ⟨by omega, by omega⟩, hc]
  simp

theorem numsB_cons (n : Nat) (zs : List Int) (k : Nat) (h : k < zs.length) : numsB n (zs.drop k) = numB n (zs.getD k 0).toNat ++ numsB n (zs.drop (k + 1)) := by
  rw [List.drop_eq_getElem_cons h, numsB, List.flatMap_cons, List.getD_eq_getElem?_getD, List.getElem?_eq_getElem h]
  rfl
end Go.Proofs.YtelpkniockhjgaaGreat.Oc
