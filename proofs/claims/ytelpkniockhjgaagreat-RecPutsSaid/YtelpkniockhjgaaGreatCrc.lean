/-
  The contracts of the functions of crc that compute a sum: what each call answers, and that it leaves memory alone.
-/
import Derived.Test.YtelpkniockhjgaaGreatCrcN
import Derived.Test.YtelpkniockhjgaaGreatWords
import Derived.Laws.BitsAllLaws
namespace Go.Proofs.YtelpkniockhjgaaGreat.Cr
open Go.RowKit Go.Deep

theorem and_one (x : Nat) (h : x < 4294967296) : bits .and .u32 (x : Int) 1 = ((x % 2 : Nat) : Int) := by
  have := u32_and_nat x 1 h (by omega)
  rw [nat_mask1] at this
  exact this
theorem xor_poly (x : Nat) (h : x < 4294967296) : bits .xor .u32 ((x : Int) / 2) 3988292384 = ((x / 2 ^^^ 3988292384 : Nat) : Int) :=
  u32_xor_nat (x / 2) 3988292384 (by omega) (by omega)

theorem bit_any (r : Nat) (w : World) (hr : r < 4294967296) : Calls Tryz.prog 38 #[.int .u32 r] w fun e w' => e = .returned (.int .u32 (itr 8 r : Nat)) ∧ w = w' := by
  go_enter Tryz.func38, Tryz.ntmps38
  go_wp2_with fail
  go_loop [0, 4] (fun x i => ∃ k : Nat, k ≤ 8 ∧ i = .int .i64 k ∧ x = .int .u32 ((itr k r : Nat) : Int)) (fun _ i => 8 - (intOf i).toNat)
  case atStart => exact ⟨0, by omega, rfl, rfl⟩
  case round =>
    obtain ⟨k, hk, rfl, rfl⟩ := hrel
    by_cases hlt : k < 8
    · have hl := itr_lt k hr
      have hs := itr_succ k r
      obtain ⟨x, hx⟩ : ∃ x, x = itr k r := ⟨_, rfl⟩
      rw [← hx] at hl hs ⊢
      have h1 := and_one x hl
      have h2 := xor_poly x hl
      have HX := Lib.hid hx
      clear hx
      by_cases ho : x % 2 = 1
      · rw [stp_odd ho] at hs
        have hb : (bits .and .u32 (x : Int) 1 == 1) = true := by rw [h1, ho]; rfl
        have HS := Lib.hid hs
        clear hs h1 ho
        go_wp2_with fail
        exact ⟨⟨k + 1, by omega, by go_num, by rw [HS.out]⟩, by simp [intOf]; omega⟩
      · rw [stp_even ho] at hs
        have hb : (bits .and .u32 (x : Int) 1 == 1) = false := by rw [h1, beq_eq_false_iff_ne]; omega
        have HS := Lib.hid hs
        clear hs h1 ho
        go_wp2_with fail
        exact ⟨⟨k + 1, by omega, by go_num, by rw [HS.out]; rfl⟩, by simp [intOf]; omega⟩
    · obtain rfl : k = 8 := by omega
      go_wp2_with fail
      go_ret
      exact ⟨rfl, rfl⟩

/-- What the table holds: cell 256 k + b. -/
def cellT (i : Nat) : Nat := itr (8 * (i / 256 + 1)) (i % 256)
/-- Four tables at block b. -/
def Tab (w : World) (b : Nat) : Prop := w.rowIs b 47 1024 fun i => .int .u32 (cellT i : Nat)
theorem cellT_lt (i : Nat) : cellT i < 4294967296 := itr_lt _ (by omega)
theorem cellT_at (k b : Nat) (hb : b < 256) : cellT (k * 256 + b) = itr (8 * (k + 1)) b := by
  unfold cellT
  rw [show (k * 256 + b) / 256 = k by omega, show (k * 256 + b) % 256 = b by omega]
theorem Tab.cell {w : World} {b : Nat} (h : Tab w b) {i : Nat} (hi : i < 1024) : w.cell? ⟨b, i, none⟩ = some (.int .u32 (cellT i : Nat)) := World.rowIs.cell h hi
theorem Tab.cellk {w : World} {b : Nat} (h : Tab w b) (k : Nat) {i : Nat} (hk : k < 4) (hi : i < 256) : w.cell? ⟨b, k * 256 + i, none⟩ = some (.int .u32 (itr (8 * (k + 1)) i : Nat)) := by
  rw [h.cell (by omega), cellT_at k i hi]

theorem byte_xor (r c : Nat) (hc : c < 256) : bits .xor .u8 ((r : Int) % 256) (c : Int) = ((r % 256 ^^^ c : Nat) : Int) := u8_xor_nat (r % 256) c (by omega) hc
theorem byte_xor_lt (r c : Nat) (hc : c < 256) : r % 256 ^^^ c < 256 := Nat.xor_lt_two_pow (n := 8) (by omega) hc

set_option maxRecDepth 100000 in
theorem step_at (b r c : Nat) (w : World) (hr : r < 4294967296) (hc : c < 256) (h0 : w.cell? ⟨b, r % 256 ^^^ c, none⟩ = some (.int .u32 (itr 8 (r % 256 ^^^ c) : Nat))) : Calls Tryz.prog 39 #[.pointer (some ⟨b, 0, none⟩), .int .u32 r, .int .u8 c] w fun e w' => e = .returned (.int .u32 (bstep r c : Nat)) ∧ w = w' := by
  have hx := byte_xor_lt r c hc
  have h1 := byte_xor r c hc
  have hb := bstep_tab r c hc
  obtain ⟨x, hxx⟩ : ∃ x, x = r % 256 ^^^ c := ⟨_, rfl⟩
  rw [← hxx] at hx h0 h1 hb
  have hl := itr_lt (r := x) 8 (by omega)
  obtain ⟨y, hyy⟩ : ∃ y, y = itr 8 x := ⟨_, rfl⟩
  rw [← hyy] at h0 hb hl
  have h2 : bits .xor .u32 ((r : Int) / 256) (y : Int) = ((r / 256 ^^^ y : Nat) : Int) := u32_xor_nat (r / 256) y (by omega) hl
  have HB := Lib.hid hb
  clear hxx hyy hb
  go_enter Tryz.func39, Tryz.ntmps39
  go_wp2_with fail
  go_ret
  exact ⟨by rw [HB.out]; rfl, rfl⟩

theorem step_any (b r c : Nat) (w : World) (hr : r < 4294967296) (hc : c < 256) (h : Tab w b) : Calls Tryz.prog 39 #[.pointer (some ⟨b, 0, none⟩), .int .u32 r, .int .u8 c] w fun e w' => e = .returned (.int .u32 (bstep r c : Nat)) ∧ w = w' :=
  step_at b r c w hr hc (by
    have := h.cellk 0 (by omega) (byte_xor_lt r c hc)
    rwa [Nat.zero_mul, Nat.zero_add, Nat.zero_add, Nat.mul_one] at this)

theorem wrap_xor (r c : Nat) (hc : c < 256) : bits .xor .u8 (IntKind.u8.wrap (r : Int)) (c : Int) = ((r % 256 ^^^ c : Nat) : Int) := by
  rw [IntKind.wrap_u8']
  exact byte_xor r c hc
theorem take4 (s : ByteArray) (hs : 4 ≤ s.size) : s.data.toList.take 4 = [s[0], s[1], s[2], s[3]] := by
  have hl : s.data.toList.length = s.size := by simp
  have h := List.take_append_drop 4 s.data.toList
  apply List.ext_getElem
  · simp [hl]; omega
  · intro i h1 h2
    have : i < 4 := by simpa using h2
    match i, this with
    | 0, _ => simp; rfl
    | 1, _ => simp; rfl
    | 2, _ => simp; rfl
    | 3, _ => simp; rfl

set_option maxRecDepth 100000 in
theorem leap_any (b r : Nat) (s : ByteArray) (w : World) (hr : r < 4294967296) (hs : 4 ≤ s.size) (h : Tab w b) : Calls Tryz.prog 93 #[.pointer (some ⟨b, 0, none⟩), .int .u32 r, .string s] w fun e w' => e = .returned (.int .u32 (regL r (s.data.toList.take 4) : Nat)) ∧ ∃ k, w' = w.drewN k := by
  have hs0 : 0 < s.size := by omega
  have hs1 : 1 < s.size := by omega
  have hs2 : 2 < s.size := by omega
  have hs3 : 3 < s.size := by omega
  have HE := Lib.hid (leap_eq r s[0].toNat s[1].toNat s[2].toNat s[3].toNat hr s[0].toNat_lt s[1].toNat_lt s[2].toNat_lt s[3].toNat_lt)
  have hT := take4 s hs
  have HT : Hid (regL r (s.data.toList.take 4) = bstep (bstep (bstep (bstep r s[0].toNat) s[1].toNat) s[2].toNat) s[3].toNat) := Lib.hid (by rw [hT]; rfl)
  have h0 := wrap_xor r _ s[0].toNat_lt
  have h1 : bits .xor .u8 (IntKind.u8.wrap ((r : Int) / 256)) (s[1].toNat : Int) = _ := wrap_xor (r / 256) _ s[1].toNat_lt
  have h2 : bits .xor .u8 (IntKind.u8.wrap ((r : Int) / 65536)) (s[2].toNat : Int) = _ := wrap_xor (r / 65536) _ s[2].toNat_lt
  have h3 : bits .xor .u8 (IntKind.u8.wrap ((r : Int) / 16777216)) (s[3].toNat : Int) = _ := wrap_xor (r / 16777216) _ s[3].toNat_lt
  have b0 := byte_xor_lt r _ s[0].toNat_lt
  have b1 := byte_xor_lt (r / 256) _ s[1].toNat_lt
  have b2 := byte_xor_lt (r / 65536) _ s[2].toNat_lt
  have b3 := byte_xor_lt (r / 16777216) _ s[3].toNat_lt
  have c0 := h.cellk 3 (by omega) b0
  have c1 := h.cellk 2 (by omega) b1
  have c2 := h.cellk 1 (by omega) b2
  have c3 := h.cellk 0 (by omega) b3
  have HT2 := HT.out.trans HE.out
  clear HE hT HT h
  generalize r % 256 ^^^ s[0].toNat = x0 at *
  generalize r / 256 % 256 ^^^ s[1].toNat = x1 at *
  generalize r / 65536 % 256 ^^^ s[2].toNat = x2 at *
  generalize r / 16777216 % 256 ^^^ s[3].toNat = x3 at *
  simp only [Nat.reduceMul, Nat.reduceAdd, Nat.zero_add] at c0 c1 c2 c3
  have l0 := itr_lt (r := x0) 32 (by omega)
  have l1 := itr_lt (r := x1) 24 (by omega)
  have l2 := itr_lt (r := x2) 16 (by omega)
  have l3 := itr_lt (r := x3) 8 (by omega)
  generalize itr 32 x0 = y0 at *
  generalize itr 24 x1 = y1 at *
  generalize itr 16 x2 = y2 at *
  generalize itr 8 x3 = y3 at *
  have e1 := u32_xor_nat y0 y1 l0 l1
  have m1 : y0 ^^^ y1 < 4294967296 := Nat.xor_lt_two_pow (n := 32) l0 l1
  have e2 := u32_xor_nat _ y2 m1 l2
  have m2 : y0 ^^^ y1 ^^^ y2 < 4294967296 := Nat.xor_lt_two_pow (n := 32) m1 l2
  have e3 := u32_xor_nat _ y3 m2 l3
  have HT := Lib.hid HT2
  have n1 : (1 : Int) < (s.size : Int) := by omega
  have n2 : (2 : Int) < (s.size : Int) := by omega
  have n3 : (3 : Int) < (s.size : Int) := by omega
  have i0 : (x0 : Int) < 256 := by omega
  have i1 : (x1 : Int) < 256 := by omega
  have i2 : (x2 : Int) < 256 := by omega
  have i3 : (x3 : Int) < 256 := by omega
  clear HT2
  go_enter Tryz.func93, Tryz.ntmps93
  go_wp2_with fail
  go_quiet (fail)
  go_wp2
  go_ret
  exact ⟨by rw [HT.out]; rfl, _, rfl⟩

end Go.Proofs.YtelpkniockhjgaaGreat.Cr
