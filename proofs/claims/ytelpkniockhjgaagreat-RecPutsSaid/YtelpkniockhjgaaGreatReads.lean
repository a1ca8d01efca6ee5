/-
  The contracts of the document's own answers Read and Reads: just what octet's cutText and cutList say.
-/
import Derived.Test.YtelpkniockhjgaaGreatRefs
namespace Go.Proofs.YtelpkniockhjgaaGreat.Oc
open Go.RowKit Go.Deep

theorem cutS_eq (s : ByteArray) (n : Nat) : cutS s n = if s.size < n then (⟨#[]⟩, ⟨#[]⟩, 3) else (s.extract 0 n, s.extract n s.size, 0) := by
  unfold cutS
  rw [if_neg (by omega)]
  by_cases h : s.size < n
  · rw [if_pos (by omega), if_pos h]
  · rw [if_neg (by omega), if_neg h]; rfl
theorem numS_eq (s : ByteArray) (n : Nat) (h1 : 1 ≤ n) (h7 : n ≤ 7) : numS s n = if s.size < n then (0, ⟨#[]⟩, 3) else (getN (s.data.toList.take n), s.extract n s.size, 0) := by
  rw [numS, if_pos ⟨by omega, by omega⟩, cutS_eq]
  by_cases h : s.size < n
  · rw [if_pos h, if_pos h]; simp
  · rw [if_neg h, if_neg h]
    obtain ⟨l, rfl⟩ := bytes_of s
    rw [if_pos rfl, extract_of]
    simp

theorem size_rest (s : ByteArray) (a : Nat) : (s.extract a s.size).size = s.size - a := by rw [ByteArray.size_extract]; omega
theorem extract_extract' (s : ByteArray) (a n : Nat) (h : a + n ≤ s.size) : (s.extract a s.size).extract 0 n = s.extract a (a + n) := by
  obtain ⟨l, rfl⟩ := bytes_of s
  rw [size_of] at *
  rw [extract_of, extract_of, extract_of, List.take_of_length_le (l := l) (Nat.le_refl _), List.drop_zero, List.take_drop, Nat.add_comm]
theorem extract_rest (s : ByteArray) (a n : Nat) (h : a + n ≤ s.size) : (s.extract a s.size).extract n (s.extract a s.size).size = s.extract (a + n) s.size := by
  rw [size_rest]
  obtain ⟨l, rfl⟩ := bytes_of s
  rw [size_of] at *
  rw [extract_of, extract_of, extract_of, List.take_of_length_le (l := l) (Nat.le_refl _), List.take_of_length_le (by rw [List.length_drop]; omega), List.drop_drop]

/-- What a text off s is: its parts. -/
theorem textS_eq (s : ByteArray) (most : Int) : textS s most =
    if s.size < 2 then (⟨#[]⟩, ⟨#[]⟩, 3) else
    if most < (getN (s.data.toList.take 2) : Int) then (⟨#[]⟩, ⟨#[]⟩, 6) else
    if s.size - 2 < getN (s.data.toList.take 2) then (⟨#[]⟩, ⟨#[]⟩, 3) else
    (s.extract 2 (2 + getN (s.data.toList.take 2)), s.extract (2 + getN (s.data.toList.take 2)) s.size, 0) := by
  have hn : numS s 2 = _ := numS_eq s 2 (by omega) (by omega)
  rw [textS, hn]
  by_cases h : s.size < 2
  · rw [if_pos h, if_pos h]; simp
  · rw [if_neg h, if_neg h]
    simp only [if_true]
    generalize getN (s.data.toList.take 2) = v
    by_cases h2 : most < (v : Int)
    · rw [if_pos h2, if_pos h2]
    · rw [if_neg h2, if_neg h2, cutS, if_neg (by omega), size_rest]
      by_cases h3 : s.size - 2 < v
      · rw [if_pos h3, if_pos (by omega)]
      · rw [if_neg h3, if_neg (by omega), Int.toNat_natCast, extract_extract' s 2 v (by omega), ← size_rest, extract_rest s 2 v (by omega)]

def readK (s rest : ByteArray) (x : Int) : Nat := if x = 0 then s.size - rest.size else 0

theorem textS_rest {s t r : ByteArray} {a : Nat} {most : Int} (ha : a ≤ s.size) (h : textS (s.extract a s.size) most = (t, r, 0)) : r = s.extract (a + readK (s.extract a s.size) r 0) s.size ∧ a + readK (s.extract a s.size) r 0 ≤ s.size := by
  rw [textS_eq] at h
  generalize hv : getN ((s.extract a s.size).data.toList.take 2) = v at h
  clear hv
  split at h
  · simp at h
  · split at h
    · simp at h
    · split at h
      · simp at h
      · rename_i h1 h2 h3
        simp only [Prod.mk.injEq] at h
        obtain ⟨_, rfl, _⟩ := h
        rw [size_rest] at h1 h3
        have hk : readK (s.extract a s.size) ((s.extract a s.size).extract (2 + v) (s.extract a s.size).size) 0 = 2 + v := by
          rw [readK, if_pos rfl, extract_rest s a (2 + v) (by omega), size_rest, size_rest]; omega
        rw [hk]
        exact ⟨extract_rest s a (2 + v) (by omega), by omega⟩

theorem info9 : (Tryz.prog.info? 9).map (fun i => (i.zero, i.size, i.bytes)) = some (some (.string ⟨#[]⟩), 1, 16) := by kernel_rfl

def ReadsPost (w : World) (s : ByteArray) (ts : List ByteArray) (rest : ByteArray) (x : Int) (e : Ending) (w' : World) : Prop :=
  ∃ v, e = .returned (.tuple #[v, .int .i64 (readK s rest x), .int .i64 x]) ∧ Strs w' w.heap.size v ts ∧ Below w.heap.size w w'

theorem strs_own {w : World} {B : Nat} {v : Value} {ts : List ByteArray} (h : w.ownsRow B 9 1 v ts.length (ts.map Value.string)) : Strs w B v ts := by
  rcases h.2 with ⟨rfl, h0⟩ | ⟨g, cap, cur, rfl, _⟩
  · have : ts = [] := List.eq_nil_of_length_eq_zero h0
    subst this
    exact ⟨none, 0, rfl, .inl rfl⟩
  · refine ⟨some ⟨g, 0, none⟩, cap, rfl, .inr ⟨g, 0, rfl, (h.lt g rfl).1, fun i hi => ?_⟩⟩
    have := h.cells rfl i (.string (ts.getD i ⟨#[]⟩)) (by simp [List.getElem?_map, List.getElem?_eq_getElem hi, List.getD_eq_getElem?_getD])
    rwa [add_none] at this

end Go.Proofs.YtelpkniockhjgaaGreat.Oc
