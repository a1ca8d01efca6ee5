/-
  The contracts of crc's Sum, of a table's At, of headOf.
-/
import Derived.Test.YtelpkniockhjgaaGreatCrcF
namespace Go.Proofs.YtelpkniockhjgaaGreat.Cr
open Go.RowKit Go.Deep

/-- What At answers. -/
def atV (k b : Int) : Nat := if 0 ≤ k ∧ k < 4 ∧ 0 ≤ b ∧ b < 256 then itr (8 * (k.toNat + 1)) b.toNat else 0

/-- A sum's four bytes, the highest first. -/
def headV (n : Nat) : Array Value := #[.int .u8 (n / 16777216 : Nat), .int .u8 (n / 65536 % 256 : Nat), .int .u8 (n / 256 % 256 : Nat), .int .u8 (n % 256 : Nat)]

theorem headOf_any (n : Nat) (w : World) (hn : n < 4294967296) : Calls Tryz.prog 49 #[.int .i64 n] w fun e w' => e = .returned (.agg (headV n)) ∧ Below w.heap.size w w' := by
  go_enter Tryz.func49, Tryz.ntmps49
  go_wp2_with fail
  exact bodyPost_ret (v := .agg (headV n)) (by simp [results, Tryz.results49, go_sem, headV]) rfl ⟨rfl, (Below.refl _ _).alloc (Nat.le_refl _) _⟩
end Go.Proofs.YtelpkniockhjgaaGreat.Cr
