/-
  The contracts of crc's Sum, of a table's At, of headOf.
-/
import Derived.Test.YtnghbgedbheodaaCrcF
namespace Go.Proofs.Ytnghbgedbheodaa
open Go.RowKit Go.Deep

theorem sumF_any (v : Value) (ts : List ByteArray) (w : World) (hv : Strs w 0 v ts) (hl : ts.length ≤ maxLen) (hs : ∀ t ∈ ts, t.size ≤ maxLen) : Calls Try.prog 11 #[v] w fun e w' => e = .returned (.int .i64 (crcL (flatB ts) : Nat)) ∧ Below w.heap.size w w' := by
  have HV := Lib.hid hv
  have HL := Lib.hid hl
  have HS := Lib.hid hs
  clear hv hl hs
  go_enter Try.func11, Try.ntmps11
  go_wp2_with fail
  refine (new_any _).mono ?_
  rintro e w1 ⟨rfl, ht, hb⟩
  have HT := Lib.hid ht
  have HB := Lib.hid hb
  clear ht hb
  go_wp2_with fail
  refine (sum_any _ _ ts _ HT.out (HV.out.below HB.out (Nat.le_refl _)) HL.out HS.out).mono ?_
  rintro e w2 ⟨rfl, k, rfl⟩
  go_wp2_with fail
  go_ret
  exact ⟨rfl, below_drewN HB.out k⟩

/-- What At answers. -/
def atV (k b : Int) : Nat := if 0 ≤ k ∧ k < 4 ∧ 0 ≤ b ∧ b < 256 then itr (8 * (k.toNat + 1)) b.toNat else 0

theorem at_none (k b : Int) (w : World) : Calls Try.prog 13 #[.pointer none, .int .i64 k, .int .i64 b] w fun e w' => e = .returned (.int .i64 0) ∧ w = w' := by
  go_enter Try.func13, Try.ntmps13
  go_wp2_with fail
  go_ret
  exact ⟨rfl, rfl⟩

set_option maxRecDepth 100000 in
theorem at_any (p : Nat) (k b : Int) (w : World) (h : Tab w p) : Calls Try.prog 13 #[.pointer (some ⟨p, 0, none⟩), .int .i64 k, .int .i64 b] w fun e w' => e = .returned (.int .i64 (atV k b : Nat)) ∧ w = w' := by
  by_cases hin : 0 ≤ k ∧ k < 4 ∧ 0 ≤ b ∧ b < 256
  · have HA : Hid (atV k b = itr (8 * (k.toNat + 1)) b.toNat) := Lib.hid (if_pos hin)
    obtain ⟨h1, h2, h3, h4⟩ := hin
    obtain ⟨j, rfl⟩ := Int.eq_ofNat_of_zero_le h1
    obtain ⟨i, rfl⟩ := Int.eq_ofNat_of_zero_le h3
    rw [Int.toNat_natCast, Int.toNat_natCast] at HA
    have hc := h.cellk j (i := i) (by omega) (by omega)
    have hl := itr_lt (r := i) (8 * (j + 1)) (by omega)
    obtain ⟨x, hx⟩ : ∃ x, x = itr (8 * (j + 1)) i := ⟨_, rfl⟩
    rw [← hx] at hc hl
    have HX := Lib.hid hx
    clear hx h
    go_enter Try.func13, Try.ntmps13
    go_wp2_with fail
    go_ret
    exact ⟨by rw [HA.out, ← HX.out]; rfl, rfl⟩
  · have HA : Hid (atV k b = 0) := Lib.hid (if_neg hin)
    clear h
    by_cases h1 : 0 ≤ k <;> by_cases h2 : k < 4 <;> by_cases h3 : 0 ≤ b <;> by_cases h4 : b < 256
    any_goals (exfalso; omega)
    all_goals
      clear hin
      go_enter Try.func13, Try.ntmps13
      go_wp2_with fail
      go_ret
      exact ⟨by rw [HA.out]; rfl, rfl⟩

/-- A sum's four bytes, the highest first. -/
def headV (n : Nat) : Array Value := #[.int .u8 (n / 16777216 : Nat), .int .u8 (n / 65536 % 256 : Nat), .int .u8 (n / 256 % 256 : Nat), .int .u8 (n % 256 : Nat)]

theorem headOf_any (n : Nat) (w : World) (hn : n < 4294967296) : Calls Try.prog 20 #[.int .i64 n] w fun e w' => e = .returned (.agg (headV n)) ∧ Below w.heap.size w w' := by
  go_enter Try.func20, Try.ntmps20
  go_wp2_with fail
  exact bodyPost_ret (v := .agg (headV n)) (by simp [results, Try.results20, go_sem, headV]) rfl ⟨rfl, (Below.refl _ _).alloc (Nat.le_refl _) _⟩
end Go.Proofs.Ytnghbgedbheodaa
