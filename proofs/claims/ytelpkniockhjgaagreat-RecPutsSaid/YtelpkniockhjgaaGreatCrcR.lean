/-
  The contracts of the document's own answers: Sum, At, Seal.
-/
import Derived.Test.YtelpkniockhjgaaGreatRefNum
import Derived.Test.YtelpkniockhjgaaGreatCrcS
namespace Go.Proofs.YtelpkniockhjgaaGreat.Cr
open Go.RowKit Go.Deep

theorem ofInt_i64 (a : Nat) (ha : a < 9223372036854775808) : (BitVec.ofInt 64 (a : Int)).toNat = a := by
  rw [BitVec.ofInt_natCast, BitVec.toNat_ofNat]; exact Nat.mod_eq_of_lt (by omega)
theorem i64_xor_nat (a b : Nat) (ha : a < 9223372036854775808) (hb : b < 9223372036854775808) : bits .xor .i64 (a : Int) (b : Int) = ((a ^^^ b : Nat) : Int) := by
  have hx : a ^^^ b < 2 ^ 63 := Nat.xor_lt_two_pow (by omega) (by omega)
  show IntKind.i64.wrap ((BitVec.ofInt 64 (a : Int) ^^^ BitVec.ofInt 64 (b : Int)).toNat : Int) = _
  rw [BitVec.toNat_xor, ofInt_i64 a ha, ofInt_i64 b hb, IntKind.wrap_i64]
  omega
theorem xor_poly64 (x : Nat) (h : x < 4294967296) : bits .xor .i64 ((x : Int) / 2) 3988292384 = ((x / 2 ^^^ 3988292384 : Nat) : Int) :=
  i64_xor_nat (x / 2) 3988292384 (by omega) (by omega)

set_option maxHeartbeats 400000 in
theorem refSum_any (s : ByteArray) (w : World) (hs : s.size ≤ maxLen) : Calls Tryz.prog 47 #[.string s] w fun e w' => e = .returned (.int .i64 (crcL s.data.toList : Nat)) ∧ w = w' := by
  unfold maxLen at hs
  go_enter Tryz.func47, Tryz.ntmps47
  go_wp2_with fail
  go_loop [3, 4] (fun x i => ∃ k : Nat, k ≤ s.size ∧ i = .int .i64 k ∧ x = .int .i64 (regL 4294967295 (s.data.toList.take k) : Nat)) (fun _ i => s.size - (intOf i).toNat)
  case atStart => exact ⟨0, Nat.zero_le _, rfl, rfl⟩
  case round =>
    obtain ⟨k, hk, rfl, rfl⟩ := hrel
    have hc := regL_lt (r := 4294967295) (by decide) (s.data.toList.take k)
    by_cases hlt : k < s.size
    · have hb := s[k].toNat_lt
      have hsn := regL_snoc 4294967295 (s.data.toList.take k) s[k]
      rw [← take_snoc s k hlt] at hsn
      obtain ⟨q, hq⟩ : ∃ q, q = regL 4294967295 (s.data.toList.take k) := ⟨_, rfl⟩
      rw [← hq] at hc hsn ⊢
      have hx := i64_xor_nat q s[k].toNat (by omega) (by omega)
      have hy : q ^^^ s[k].toNat < 4294967296 := Nat.xor_lt_two_pow (n := 32) hc (by omega)
      rw [bstep] at hsn
      obtain ⟨y, hye⟩ : ∃ y, y = q ^^^ s[k].toNat := ⟨_, rfl⟩
      rw [← hye] at hx hy hsn
      have HSN := Lib.hid hsn
      have HQ := Lib.hid hq
      have HY := Lib.hid hye
      clear hsn hq hye
      go_wp2_with fail
      go_loop [3, 5] (fun x i => ∃ j : Nat, j ≤ 8 ∧ i = .int .i64 j ∧ x = .int .i64 (itr j y : Nat)) (fun _ i => 8 - (intOf i).toNat)
      case atStart => exact ⟨0, by omega, rfl, rfl⟩
      case round =>
        obtain ⟨j, hj, rfl, rfl⟩ := hrel
        by_cases hjt : j < 8
        · have hl := itr_lt j hy
          have hst := itr_succ j y
          obtain ⟨x, hxe⟩ : ∃ x, x = itr j y := ⟨_, rfl⟩
          rw [← hxe] at hl hst ⊢
          have h2 := xor_poly64 x hl
          have HX := Lib.hid hxe
          clear hxe hx
          by_cases ho : x % 2 = 1
          · rw [stp_odd ho] at hst
            have hb : ((x : Int) % 2 == 1) = true := by rw [beq_iff_eq]; omega
            have HS := Lib.hid hst
            clear hst ho
            go_wp2_with fail
            exact ⟨⟨j + 1, by omega, by go_num, by rw [HS.out]⟩, by simp [intOf]; omega⟩
          · rw [stp_even ho] at hst
            have hb : ((x : Int) % 2 == 1) = false := by rw [beq_eq_false_iff_ne]; omega
            have HS := Lib.hid hst
            clear hst ho
            go_wp2_with fail
            exact ⟨⟨j + 1, by omega, by go_num, by rw [HS.out]; rfl⟩, by simp [intOf]; omega⟩
        · have HJ : Hid (itr j y = regL 4294967295 (s.data.toList.take (k + 1))) := Lib.hid (by rw [show j = 8 by omega, HSN.out])
          go_wp2_with fail
          exact ⟨⟨k + 1, by omega, by go_num, by rw [HJ.out]⟩, by simp [intOf]; omega⟩
    · obtain rfl : k = s.size := by omega
      rw [List.take_of_length_le (by simp)] at hc ⊢
      obtain ⟨q, hq⟩ : ∃ q, q = regL 4294967295 s.data.toList := ⟨_, rfl⟩
      rw [← hq] at hc ⊢
      have HQ : Hid (crcL s.data.toList = 4294967295 - q) := Lib.hid (by rw [hq]; rfl)
      clear hq
      go_wp2_with fail
      go_ret
      refine ⟨?_, rfl⟩
      rw [HQ.out]
      go_num

/-- A text, sealed. -/
def sealB (s : ByteArray) : List UInt8 := numB 4 (crcL s.data.toList) ++ s.data.toList
theorem sealB_eq (s : ByteArray) : (⟨(numB 4 (crcL s.data.toList)).toArray⟩ : ByteArray) ++ s = ⟨(sealB s).toArray⟩ := by
  unfold sealB
  rw [← append_toArray, Array.toArray_toList]

theorem refSeal_any (s : ByteArray) (w : World) (hs : s.size ≤ 1000000) : Calls Tryz.prog 27 #[.string s] w fun e w' => e = .returned (.string ⟨(sealB s).toArray⟩) ∧ Below w.heap.size w w' := by
  obtain ⟨n, hn⟩ : ∃ n, n = crcL s.data.toList := ⟨_, rfl⟩
  have hlt := crcL_lt s.data.toList
  rw [← hn] at hlt
  have HE := Lib.hid (sealB_eq s)
  rw [← hn] at HE
  have HN := Lib.hid hn
  have hsz : (⟨(numB 4 n).toArray⟩ : ByteArray).size ≤ 4 := by simp [ByteArray.size, numB_length]
  clear hn
  go_enter Tryz.func27, Tryz.ntmps27
  go_wp2_with fail
  refine (refSum_any s _ (by unfold maxLen; omega)).mono ?_
  rintro e w' ⟨rfl, rfl⟩
  rw [← HN.out]
  go_wp2_with fail
  refine (refNum_any 4 n _ (by omega) (by omega)).mono ?_
  rintro e w' ⟨rfl, hb⟩
  have HB := Lib.hid hb
  clear hb
  go_wp2_with fail
  go_ret
  exact ⟨by rw [← HE.out]; rfl, HB.out⟩
end Go.Proofs.YtelpkniockhjgaaGreat.Cr
