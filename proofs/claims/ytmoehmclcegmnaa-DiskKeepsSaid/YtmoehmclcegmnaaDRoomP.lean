/-
  A disk whose fuse isn't lit: what an operation that is refused leaves, and what stays.
-/
import Derived.Test.YtmoehmclcegmnaaDGreat
namespace Go.Proofs.Ytmoehmclcegmnaa
open Go.RowKit Go.Deep

theorem burnE_off {st : St} (h : st.lit = false) : burnE st = 0 := by unfold burnE; rw [h]; rfl
theorem burnS_off {st : St} (h : st.lit = false) : burnS st = st := by unfold burnS; rw [h]; rfl
/-- The rest of a disk than its files. -/
def rest3 (st : St) : Bool × Bool × Nat := (st.lit, st.down, st.cap)
theorem rest3_sync1 (st : St) (t : ByteArray) : rest3 (sync1 st t) = rest3 st := by unfold sync1; split <;> rfl
theorem rest3_syncAll (st : St) (ts : List ByteArray) : rest3 (syncAll st ts) = rest3 st := by
  unfold syncAll
  induction ts generalizing st with
  | nil => rfl
  | cons t ts ih => rw [List.foldl_cons, ih, rest3_sync1]
theorem rest3_deleteAll (st : St) (ts : List ByteArray) : rest3 (deleteAll st ts) = rest3 st := by
  unfold deleteAll
  induction ts generalizing st with
  | nil => rfl
  | cons t ts ih => rw [List.foldl_cons, ih]; rfl
theorem rest3_doS {st : St} (o : OpM) (hl : st.lit = false) (hk : o.kind ≤ 5) : rest3 (doS st o) = rest3 st := by
  have hb := burnS_off hl
  unfold doS
  split
  · unfold createS; rw [hb]; (repeat' split) <;> rfl
  split
  · unfold writeS; rw [hb]; (repeat' split) <;> rfl
  split
  · unfold syncS; rw [hb]; (repeat' split) <;> first | rfl | exact rest3_syncAll _ _
  split
  · unfold cutS; rw [hb]; (repeat' split) <;> rfl
  split
  · unfold renameS; rw [hb]; (repeat' split) <;> rfl
  split
  · unfold deleteS; rw [hb]; (repeat' split) <;> first | rfl | exact rest3_deleteAll _ _
  split
  · omega
  · rfl
theorem doS_refused {st : St} (o : OpM) (hl : st.lit = false) (hk : o.kind ≤ 5) (he : doE st o ≠ 0) : doS st o = st := by
  have hb := burnS_off hl
  have hz := burnE_off hl
  unfold doE at he
  unfold doS
  split
  · rename_i h; rw [if_pos h] at he
    unfold createE at he; unfold createS; simp only [hz] at he; simp only [hb, hz]
    (repeat' split) <;> simp_all
  · rename_i h; rw [if_neg h] at he
    split
    · rename_i h; rw [if_pos h] at he
      unfold writeE at he; unfold writeS; simp only [hz] at he; simp only [hb, hz]
      (repeat' split) <;> simp_all
    · rename_i h; rw [if_neg h] at he
      split
      · rename_i h; rw [if_pos h] at he
        unfold syncE deleteE at he; unfold syncS; simp only [hz] at he; simp only [hb, hz]
        (repeat' split) <;> simp_all
      · rename_i h; rw [if_neg h] at he
        split
        · rename_i h; rw [if_pos h] at he
          unfold cutE at he; unfold cutS; simp only [hz] at he; simp only [hb, hz]
          (repeat' split) <;> simp_all
        · rename_i h; rw [if_neg h] at he
          split
          · rename_i h; rw [if_pos h] at he
            unfold renameE at he; unfold renameS; simp only [hz] at he; simp only [hb, hz]
            (repeat' split) <;> simp_all
          · rename_i h; rw [if_neg h] at he
            split
            · rename_i h; rw [if_pos h] at he
              unfold deleteE at he; unfold deleteS; simp only [hz] at he; simp only [hb, hz]
              (repeat' split) <;> simp_all
            · rename_i h; rw [if_neg h] at he
              exact absurd rfl he
end Go.Proofs.Ytmoehmclcegmnaa
