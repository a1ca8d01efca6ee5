/-
  A text's number: the contract of Hash.
-/
import Derived.Test.YtelpkniockhjgaaGreatFlat
namespace Go.Proofs.YtelpkniockhjgaaGreat
open Go.RowKit Go.Deep

/-- A text's number, from one on. -/
def hashF (h : Nat) (l : List UInt8) : Nat := l.foldl (fun h c => (31 * h + c.toNat) % 4294967296) h
theorem hashF_snoc (h : Nat) (l : List UInt8) (c : UInt8) : hashF h (l ++ [c]) = (31 * hashF h l + c.toNat) % 4294967296 := by
  unfold hashF; rw [List.foldl_append]; rfl
theorem hashF_app (h : Nat) (l m : List UInt8) : hashF h (l ++ m) = hashF (hashF h l) m := by
  unfold hashF; rw [List.foldl_append]
theorem hashF_lt {h : Nat} (hh : h < 4294967296) (l : List UInt8) : hashF h l < 4294967296 := by
  unfold hashF
  induction l generalizing h with
  | nil => exact hh
  | cons c l ih => exact ih (Nat.mod_lt _ (by decide))

end Go.Proofs.YtelpkniockhjgaaGreat
