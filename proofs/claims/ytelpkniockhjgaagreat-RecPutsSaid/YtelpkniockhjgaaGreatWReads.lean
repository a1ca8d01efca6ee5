/-
  OctetReads, walked: true for every input; only new memory is written.
-/
import Derived.Test.YtelpkniockhjgaaGreatReads
namespace Go.Proofs.YtelpkniockhjgaaGreat.Oc
open Go.RowKit Go.Deep

def NewPost (w : World) (s : ByteArray) (e : Ending) (w' : World) : Prop := ∃ b, e = .returned (.pointer (some ⟨b, 0, none⟩)) ∧ w.heap.size ≤ b ∧ Rd w' b s 0 ∧ w.grownBy w' none
theorem new_post (s : ByteArray) (w : World) : Calls Tryz.prog 55 #[.string s] w (NewPost w s) := by
  refine (new_any s w).mono ?_
  rintro e w' ⟨rfl, rfl⟩
  exact ⟨w.heap.size, rfl, Nat.le_refl _, Rd.new _ _, World.grownBy_alloc w _ none⟩
theorem Rd.below {w w' : World} {b B : Nat} {s : ByteArray} {e : Int} (h : Rd w b s e) (hb : Below B w w') (hB : b < B) : Rd w' b s e := by
  unfold Rd; rw [hb.block b hB]; exact h
theorem below_grown {B : Nat} {w w1 w2 : World} (h : Below B w w1) (hg : w1.grownBy w2 none) (hB : B ≤ w.heap.size) : Below B w w2 :=
  h.grown hg (Nat.le_trans hB h.size) (fun k e => by cases e)
theorem below_grown' {B b : Nat} {w w1 w2 : World} (h : Below B w w1) (hg : w1.grownBy w2 (some b)) (hB : B ≤ w.heap.size) (hb : B ≤ b) : Below B w w2 :=
  h.grown hg (Nat.le_trans hB h.size) (fun k e => by cases e; exact hb)

theorem textS_le {s t r : ByteArray} {most x : Int} (h : textS s most = (t, r, x)) : r.size ≤ s.size := by
  rw [textS_eq] at h
  generalize getN (s.data.toList.take 2) = v at h
  split at h
  · simp only [Prod.mk.injEq] at h; rw [← h.2.1]; exact Nat.zero_le _
  · split at h
    · simp only [Prod.mk.injEq] at h; rw [← h.2.1]; exact Nat.zero_le _
    · split at h
      · simp only [Prod.mk.injEq] at h; rw [← h.2.1]; exact Nat.zero_le _
      · simp only [Prod.mk.injEq] at h; rw [← h.2.1, size_rest]; omega
theorem textsS_le (most : Int) : ∀ (n : Nat) {s r : ByteArray} {acc ts : List ByteArray} {x : Int}, textsS most n s acc = (ts, r, x) → r.size ≤ s.size := by
  intro n
  induction n with
  | zero => intro s r acc ts x h; simp only [textsS, Prod.mk.injEq] at h; rw [h.2.1]; exact Nat.le_refl _
  | succ n ih =>
    intro s r acc ts x h
    rw [textsS] at h
    split at h
    · exact Nat.le_trans (ih h) (textS_le (t := (textS s most).1) (x := (textS s most).2.2) rfl)
    · simp only [Prod.mk.injEq] at h; rw [← h.2.1]; exact Nat.zero_le _
theorem listS_le {s r : ByteArray} {ts : List ByteArray} {many most x : Int} (h : listS s many most = (ts, r, x)) : r.size ≤ s.size := by
  have hn : numS s 1 = _ := numS_eq s 1 (by omega) (by omega)
  rw [listS, hn] at h
  by_cases h1 : s.size < 1
  · rw [if_pos h1] at h
    simp only [show ¬ ((3 : Int) = 0) by decide, if_false, Prod.mk.injEq] at h
    rw [← h.2.1]; exact Nat.zero_le _
  · rw [if_neg h1] at h
    simp only [if_true] at h
    split at h
    · simp only [Prod.mk.injEq] at h; rw [← h.2.1]; exact Nat.zero_le _
    · exact Nat.le_trans (textsS_le _ _ h) (by rw [size_rest]; omega)
theorem Strs.zero {w : World} {B : Nat} {v : Value} {ts : List ByteArray} (h : Strs w B v ts) : Strs w 0 v ts := by
  obtain ⟨a, cap, rfl, h⟩ := h
  refine ⟨a, cap, rfl, ?_⟩
  rcases h with h | ⟨b, o, rfl, _, h⟩
  · exact .inl h
  · exact .inr ⟨b, o, rfl, Nat.zero_le _, h⟩
theorem readK_le (s r : ByteArray) (x : Int) : readK s r x ≤ s.size := by
  unfold readK; split <;> omega
theorem left_eq {s r : ByteArray} {x : Int} (h : r.size ≤ s.size) : ((goS s r x).size : Int) = (s.size : Int) - (readK s r x : Nat) := by
  unfold goS readK
  split <;> omega

theorem textsS_count (most : Int) : ∀ (n : Nat) {s r : ByteArray} {acc ts : List ByteArray} {x : Int}, textsS most n s acc = (ts, r, x) → ts.length ≤ acc.length + n := by
  intro n
  induction n with
  | zero => intro s r acc ts x h; simp only [textsS, Prod.mk.injEq] at h; rw [h.1]; exact Nat.le_refl _
  | succ n ih =>
    intro s r acc ts x h
    rw [textsS] at h
    split at h
    · have := ih h
      simp at this
      omega
    · simp only [Prod.mk.injEq] at h; rw [← h.1]; exact Nat.zero_le _
theorem listS_count {s r : ByteArray} {ts : List ByteArray} {many most x : Int} (h : listS s many most = (ts, r, x)) : ts.length ≤ 1000000 := by
  rw [listS] at h
  split at h
  · split at h
    · simp only [Prod.mk.injEq] at h; rw [← h.1]; exact Nat.zero_le _
    · have h1 := textsS_count _ _ h
      have h2 := numS_lt (s := s) (n := 1) (v := (numS s 1).1) (r := (numS s 1).2.1) (y := (numS s 1).2.2) rfl
      simp at h1
      omega
  · simp only [Prod.mk.injEq] at h; rw [← h.1]; exact Nat.zero_le _

end Go.Proofs.YtelpkniockhjgaaGreat.Oc
