/-
  The contracts of the document's own answers: Fits, Num, Get, Text, List, Read, Reads, Same.
-/
import Derived.Test.YtelpkniockhjgaaWTakes
namespace Go.Proofs.Ytelpkniockhjgaa.Oc
open Go.RowKit Go.Deep

theorem conv_one (w : World) (p : Nat) : (convert 33 9 (.slice (some ⟨w.heap.size, 0, none⟩) 1 1)).run Try.prog (w.alloc (.cells #[.int .u8 ((p : Int) % 256)] 5)) = .ok (.string ⟨[UInt8.ofNat p].toArray⟩) (w.alloc (.cells #[.int .u8 ((p : Int) % 256)] 5)) := by
  refine run_convert_bytes_back _ 33 9 5 _ 1 [UInt8.ofNat p] Try.underlying33 Try.underlying5 Try.underlying9 fun j hj => ?_
  obtain rfl : j = 0 := by simp at hj; exact hj
  have := by8_shift p 0
  simp only [Nat.mul_zero, Int.pow_zero, Int.ediv_one, Nat.pow_zero, Nat.div_one] at this
  rw [this]
  simp [by8, Addr.add]

end Go.Proofs.Ytelpkniockhjgaa.Oc
