/-
  The contracts of the document's own answers: Sum, At, Seal.
-/
import Derived.Test.YtelpkniockhjgaaRefNum
import Derived.Test.YtelpkniockhjgaaCrcS
namespace Go.Proofs.Ytelpkniockhjgaa.Cr
open Go.RowKit Go.Deep

theorem ofInt_i64 (a : Nat) (ha : a < 9223372036854775808) : (BitVec.ofInt 64 (a : Int)).toNat = a := by
  rw [BitVec.ofInt_natCast, BitVec.toNat_ofNat]; exact Nat.mod_eq_of_lt (by omega)
theorem i64_xor_nat (a b : Nat) (ha : a < 9223372036854775808) (hb : b < 9223372036854775808) : bits .xor .i64 (a : Int) (b : Int) = ((a ^^^ b : Nat) : Int) := by
  have hx : a ^^^ b < 2 ^ 63 := Nat.xor_lt_two_pow (by omega) (by omega)
  show IntKind.i64.wrap ((BitVec.ofInt 64 (a : Int) ^^^ BitVec.ofInt 64 (b : Int)).toNat : Int) = _
  rw [BitVec.toNat_xor, ofInt_i64 a ha, ofInt_i64 b hb, IntKind.wrap_i64]
  omega
theorem xor_poly64 (x : Nat) (h : x < 4294967296) : bits .xor .i64 ((x : Int) / 2) 3988292384 = ((x / 2 ^^^ 3988292384 : Nat) : Int) :=
  i64_xor_nat (x / 2) 3988292384 (by omega) (by omega)

/-- A text, sealed. -/
def sealB (s : ByteArray) : List UInt8 := numB 4 (crcL s.data.toList) ++ s.data.toList
theorem sealB_eq (s : ByteArray) : (⟨(numB 4 (crcL s.data.toList)).toArray⟩ : ByteArray) ++ s = ⟨(sealB s).toArray⟩ := by
  unfold sealB
  rw [← append_toArray, Array.toArray_toList]

end Go.Proofs.Ytelpkniockhjgaa.Cr
