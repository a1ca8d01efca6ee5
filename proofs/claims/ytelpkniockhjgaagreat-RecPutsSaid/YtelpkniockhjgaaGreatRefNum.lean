/-
  The contract of the document's own number in n bytes.
-/
import Derived.Test.YtelpkniockhjgaaGreatWords
namespace Go.Proofs.YtelpkniockhjgaaGreat.Cr
open Go.RowKit Go.Deep

theorem conv_one (w : World) (p : Nat) : (convert 70 9 (.slice (some ⟨w.heap.size, 0, none⟩) 1 1)).run Tryz.prog (w.alloc (.cells #[.int .u8 ((p : Int) % 256)] 5)) = .ok (.string ⟨[UInt8.ofNat p].toArray⟩) (w.alloc (.cells #[.int .u8 ((p : Int) % 256)] 5)) := by
  refine run_convert_bytes_back _ 70 9 5 _ 1 [UInt8.ofNat p] Tryz.underlying70 Tryz.underlying5 Tryz.underlying9 fun j hj => ?_
  obtain rfl : j = 0 := by simp at hj; exact hj
  have := by8_shift p 0
  simp only [Nat.mul_zero, Int.pow_zero, Int.ediv_one, Nat.pow_zero, Nat.div_one] at this
  rw [this]
  simp [by8, Addr.add]

set_option maxHeartbeats 400000 in
theorem refNum_any (n x : Nat) (w : World) (hn : n ≤ 7) (hx : x < 9223372036854775807) : Calls Tryz.prog 24 #[.int .i64 n, .int .i64 x] w fun e w' => e = .returned (.string ⟨(numB n x).toArray⟩) ∧ Below w.heap.size w w' := by
  go_enter Tryz.func24, Tryz.ntmps24
  go_wp2_with fail
  go_loopw [1, 5, 6] (fun y s i wr => ∃ k : Nat, k ≤ n ∧ i = .int .i64 k ∧ y = .int .i64 ((x / 256 ^ k : Nat) : Int) ∧ s = .string ⟨(numB k x).toArray⟩ ∧ Below w.heap.size w wr) (fun _ _ i _ => n - (intOf i).toNat)
  case atStart => exact ⟨0, Nat.zero_le _, rfl, by simp, rfl, Below.refl _ _⟩
  case round =>
    obtain ⟨k, hk, rfl, rfl, rfl, hb⟩ := hrel
    have HB := Lib.hid hb
    clear hb
    by_cases hlt : k < n
    · have hle : x / 256 ^ k ≤ x := Nat.div_le_self _ _
      obtain ⟨p, hpp⟩ : ∃ p, p = x / 256 ^ k := ⟨_, rfl⟩
      obtain ⟨l, hll⟩ : ∃ l, l = numB k x := ⟨_, rfl⟩
      rw [← hpp] at hle ⊢
      rw [← hll]
      have HPP := Lib.hid hpp
      have HLL := Lib.hid hll
      clear hpp hll
      have hcv := conv_one wr p
      have hl7 : l.length ≤ 7 := by rw [HLL.out, numB_length]; omega
      go_wp2_with fail
      refine ⟨⟨k + 1, by omega, by go_num, ?_, ?_, HB.out.alloc HB.out.size _⟩, by simp [intOf]; omega⟩
      · rw [HPP.out, Nat.pow_succ, ← Nat.div_div_eq_div_mul, Int.natCast_ediv (x / 256 ^ k) 256]; rfl
      · rw [HPP.out, HLL.out]; rfl
    · obtain rfl : k = n := by omega
      go_wp2_with fail
      go_ret
      exact ⟨rfl, HB.out⟩
end Go.Proofs.YtelpkniockhjgaaGreat.Cr
