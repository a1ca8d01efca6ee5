/- A part. -/
import Derived.BigQuiet
import Derived.Lib.Hide
import Derived.Test.YtkbgococmkcjaaaRows
import Derived.WalkLawsBesides
import Derived.WalkSpells
set_option linter.unusedVariables false
set_option linter.unusedSimpArgs false
namespace Go.Proofs.Ytkbgococmkcjaaa.Oc
open Go.RowKit
def Rd (w : World) (b : Nat) (s : ByteArray) (e : Int) : Prop :=
  w.heap[b]? = some (.cells #[.string s, .int .i64 e] 95 (0, 0))
theorem Rd.rest {w : World} {b : Nat} {s : ByteArray} {e : Int} (h : Rd w b s e) : w.cell? ⟨b, 0, none⟩ = some (.string s) := by
  unfold Rd at h; simp [World.cell?, h]
theorem Rd.err {w : World} {b : Nat} {s : ByteArray} {e : Int} (h : Rd w b s e) : w.cell? ⟨b, 1, none⟩ = some (.int .i64 e) := by
  unfold Rd at h; simp [World.cell?, h]
theorem Rd.free {w : World} {b : Nat} {s : ByteArray} {e : Int} (h : Rd w b s e) (i : Nat) : w.frozen? ⟨b, i, none⟩ = false := by
  unfold Rd at h; simp [World.frozen?, h]
theorem Rd.lt {w : World} {b : Nat} {s : ByteArray} {e : Int} (h : Rd w b s e) : b < w.heap.size := lt_of_block h
theorem Rd.drewN {w : World} {b : Nat} {s : ByteArray} {e : Int} (h : Rd w b s e) (k : Nat) : Rd (w.drewN k) b s e := h
theorem Rd.kept {w w' : World} {b c : Nat} {s : ByteArray} {e : Int} (h : Rd w b s e) (hg : w.grownBy w' (some c)) (hne : b ≠ c) : Rd w' b s e := by
  unfold Rd; rw [hg.block b h.lt (by simpa using hne)]; exact h
theorem grownBy_refl (w : World) (r : Option Nat) : w.grownBy w r := ⟨rfl, rfl, rfl, Nat.le_refl _, fun _ _ _ => rfl⟩
theorem grownBy_trans {a b c : World} {r : Option Nat} (h : a.grownBy b r) (k : b.grownBy c r) : a.grownBy c r :=
  ⟨k.os.trans h.os, k.tape.trans h.tape, k.output.trans h.output, Nat.le_trans h.size k.size, fun i hi hr => (k.block i (Nat.lt_of_lt_of_le hi h.size) hr).trans (h.block i hi hr)⟩
theorem new_any (s : ByteArray) (w : World) : Calls Try.prog 33 #[.string s] w fun e w' => e = .returned (.pointer (some ⟨w.heap.size, 0, none⟩)) ∧ w' = w.alloc (.cells #[.string s, .int .i64 0] 95) := by
  go_enter Try.func33, Try.ntmps33
  go_wp2
  go_ret
  exact ⟨rfl, rfl⟩
end Go.Proofs.Ytkbgococmkcjaaa.Oc
