/-
  OctetNums, walked: true for every input; only new memory is written.
-/
import Derived.Test.YtjkcahandfacoaaIn
namespace Go.Proofs.Ytjkcahandfacoaa
open Go.RowKit Go.Deep

theorem IntsOf.below {k : IntKind} {w w' : World} {v : Value} {zs : List Int} {B : Nat} (h : IntsOf k w v zs) (hb : Below B w w') (hB : w.heap.size ≤ B) : IntsOf k w' v zs := by
  obtain ⟨a, cap, rfl, h⟩ := h
  refine ⟨a, cap, rfl, ?_⟩
  rcases h with h | ⟨b, o, rfl, h⟩
  · exact .inl h
  · refine .inr ⟨b, o, rfl, fun i hi => ?_⟩
    have hlt := World.block_lt_of_cell? _ _ (h i hi)
    exact (hb.cell (p := ⟨b, o + i, none⟩) (Nat.lt_of_lt_of_le hlt hB)).trans (h i hi)

theorem IntsOf.cellAt {k : IntKind} {w : World} {a : Option Addr} {len cap : Nat} {zs : List Int} (h : IntsOf k w (.slice a len cap) zs) {i : Nat} (hi : i < zs.length) : ∃ b o, a = some ⟨b, o, none⟩ ∧ len = zs.length ∧ w.cell? ⟨b, o + i, none⟩ = some (.int k (zs.getD i 0)) := by
  obtain ⟨a', cap', e, h⟩ := h
  cases e
  rcases h with h | ⟨b, o, rfl, h⟩
  · subst h; simp at hi
  · exact ⟨b, o, rfl, rfl, h i hi⟩

theorem append_toArray (a b : List UInt8) : (⟨a.toArray⟩ : ByteArray) ++ ⟨b.toArray⟩ = ⟨(a ++ b).toArray⟩ := by
  apply ByteArray.ext
  simp

theorem nums_many (n : Int) (v : Value) (zs : List Int) (w : World) (hv : Ints w v zs) (h : 60 < zs.length) :
    Calls Try.prog 3 #[.int .i64 n, v] w fun e w' => e = .returned (.bool true) ∧ Below w.heap.size w w' := by
  obtain ⟨a, cap, rfl, _⟩ := hv
  go_enter Try.func3, Try.ntmps3
  go_wp2_with fail
  refine (awake_any _).mono ?_
  rintro e w1 ⟨rfl, hb⟩
  have HB := Lib.hid hb
  clear hb
  go_wp2_with fail
  go_ret
  exact ⟨rfl, HB.out⟩

theorem nums_bad (n : Int) (v : Value) (zs : List Int) (w : World) (hv : Ints w v zs) (h : zs.length ≤ 60) (hn : ¬ (1 ≤ n ∧ n ≤ 7)) :
    Calls Try.prog 3 #[.int .i64 n, v] w fun e w' => e = .returned (.bool true) ∧ Below w.heap.size w w' := by
  obtain ⟨a, cap, rfl, _⟩ := hv
  have HN := Lib.hid hn
  have hn2 : n < 1 ∨ 1 ≤ n ∧ 7 < n := by omega
  clear hn
  rcases hn2 with hn2 | ⟨hn2, hn3⟩
  all_goals
    go_enter Try.func3, Try.ntmps3
    go_wp2_with fail
    refine (awake_any _).mono ?_
    rintro e w1 ⟨rfl, hb⟩
    have HB := Lib.hid hb
    clear hb
    go_wp2_with fail
    refine (numS_bad _ _ _ HN.out).mono ?_
    rintro e w2 ⟨rfl, rfl⟩
    go_wp2_with fail
    go_ret
    exact ⟨rfl, HB.out⟩

set_option maxHeartbeats 1000000 in
theorem nums_range (n : Nat) (v : Value) (zs : List Int) (w : World) (hv : Ints w v zs) (h : zs.length ≤ 60) (h1 : 1 ≤ n) (h7 : n ≤ 7) (hf : ¬ ∀ x ∈ zs, FitN n x) :
    Calls Try.prog 3 #[.int .i64 n, v] w fun e w' => e = .returned (.bool true) ∧ Below w.heap.size w w' := by
  have HV := Lib.hid hv
  have HF := Lib.hid hf
  obtain ⟨a, cap, rfl, _⟩ := hv
  clear hf
  go_enter Try.func3, Try.ntmps3
  go_wp2_with fail
  refine (awake_any _).mono ?_
  rintro e w1 ⟨rfl, hb⟩
  have HB := Lib.hid hb
  have HV1 := Lib.hid (HV.out.below hb (Nat.le_refl _))
  clear hb
  go_wp2_with fail
  refine (numS_range n _ zs _ h1 h7 (by omega) HV1.out HF.out).mono ?_
  rintro e w2 ⟨rfl, hb⟩
  have HB2 := Lib.hid (HB.out.trans (hb.mono HB.out.size))
  clear hb
  go_wp2_with fail
  go_loopw [7, 38] (fun s i wr => ∃ k : Nat, k ≤ zs.length ∧ i = .int .i64 k ∧ (∀ x ∈ zs.take k, FitN n x) ∧ s = .string ⟨(numsB n (zs.take k)).toArray⟩ ∧ Below w.heap.size w wr) (fun _ i _ => zs.length - (intOf i).toNat)
  case atStart => exact ⟨0, Nat.zero_le _, rfl, by simp, rfl, HB2.out⟩
  case round =>
    obtain ⟨k, hk, rfl, hall, rfl, hb⟩ := hrel
    have HALL := Lib.hid hall
    have HBR := Lib.hid hb
    clear hall hb
    by_cases hlt : k < zs.length
    · obtain ⟨b, o, rfl, _, hck⟩ := (HV.out.below HBR.out (Nat.le_refl _)).cellAt hlt
      obtain ⟨x, hx⟩ : ∃ x, zs.getD k 0 = x := ⟨_, rfl⟩
      rw [hx] at hck
      obtain ⟨L, hL⟩ : ∃ L, L = numsB n (zs.take k) := ⟨_, rfl⟩
      have hLl : L.length ≤ 420 := by
        rw [hL, numsB_length]
        have : n * (zs.take k).length ≤ 7 * 60 := Nat.mul_le_mul h7 (by rw [List.length_take]; omega)
        omega
      rw [← hL]
      have HX := Lib.hid hx
      have HL := Lib.hid hL
      clear hx hL
      by_cases hfx : FitN n x
      · have HFX := Lib.hid hfx
        have HFD := Lib.hid (decide_eq_true hfx)
        obtain ⟨hx0, hx1⟩ := hfx
        obtain ⟨y, rfl⟩ := Int.eq_ofNat_of_zero_le hx0
        have hy : y < 9223372036854775807 := by
          have h2 : y < 256 ^ n := Int.ofNat_lt.1 (by rw [Int.natCast_pow]; exact hx1)
          exact Nat.lt_of_lt_of_le h2 (Nat.le_trans (Nat.pow_le_pow_right (by decide) h7) (by decide))
        have HY := Lib.hid hy
        obtain ⟨M, hM⟩ : ∃ M, M = numB n y := ⟨_, rfl⟩
        have hMl : M.length ≤ 7 := by rw [hM, numB_length]; exact h7
        have HM := Lib.hid hM
        clear hx0 hx1 hy hM
        go_wp2_with fail
        refine (fits_any _ _ _ h7).mono ?_
        rintro e w3 ⟨rfl, rfl⟩
        rw [HFD.out]
        go_wp2_with fail
        refine (refNum_any n y _ h7 HY.out).mono ?_
        rintro e w3 ⟨rfl, hb⟩
        rw [← HM.out]
        have HB3 := Lib.hid (HBR.out.trans (hb.mono HBR.out.size))
        clear hb
        go_wp2_with fail
        refine ⟨⟨k + 1, by omega, by go_num, fit_snoc hlt HALL.out (by rw [HX.out]; exact HFX.out), ?_, HB3.out⟩, by simp [intOf]; omega⟩
        rw [numsB_snoc n zs k hlt, HX.out, append_toArray, HL.out, HM.out]
        rfl
      · have HFD := Lib.hid (decide_eq_false hfx)
        clear hfx
        go_wp2_with fail
        refine (fits_any _ _ _ h7).mono ?_
        rintro e w3 ⟨rfl, rfl⟩
        rw [HFD.out]
        go_wp2_with fail
        go_ret
        exact ⟨rfl, HBR.out⟩
    · obtain rfl : k = zs.length := by omega
      exact absurd (by simpa using HALL.out) HF.out
set_option maxHeartbeats 1000000 in
theorem nums_ok (n : Nat) (v : Value) (zs : List Int) (w : World) (hv : Ints w v zs) (h : zs.length ≤ 60) (h1 : 1 ≤ n) (h7 : n ≤ 7) (hf : ∀ x ∈ zs, FitN n x) :
    Calls Try.prog 3 #[.int .i64 n, v] w fun e w' => e = .returned (.bool true) ∧ Below w.heap.size w w' := by
  have HV := Lib.hid hv
  have HF := Lib.hid hf
  obtain ⟨a, cap, rfl, _⟩ := hv
  clear hf
  go_enter Try.func3, Try.ntmps3
  go_wp2_with fail
  refine (awake_any _).mono ?_
  rintro e w1 ⟨rfl, hb⟩
  have HB := Lib.hid hb
  have HV1 := Lib.hid (HV.out.below hb (Nat.le_refl _))
  clear hb
  go_wp2_with fail
  refine (numS_ok n _ zs _ h1 h7 (by omega) HV1.out HF.out).mono ?_
  rintro e w2 ⟨rfl, hb⟩
  have HB2 := Lib.hid (HB.out.trans (hb.mono HB.out.size))
  clear hb
  go_wp2_with fail
  go_loopw [7, 38] (fun s i wr => ∃ k : Nat, k ≤ zs.length ∧ i = .int .i64 k ∧ s = .string ⟨(numsB n (zs.take k)).toArray⟩ ∧ Below w.heap.size w wr) (fun _ i _ => zs.length - (intOf i).toNat)
  case atStart => exact ⟨0, Nat.zero_le _, rfl, rfl, HB2.out⟩
  case round =>
    obtain ⟨k, hk, rfl, rfl, hb⟩ := hrel
    have HBR := Lib.hid hb
    clear hb
    by_cases hlt : k < zs.length
    · obtain ⟨b, o, rfl, _, hck⟩ := (HV.out.below HBR.out (Nat.le_refl _)).cellAt hlt
      obtain ⟨x, hx⟩ : ∃ x, zs.getD k 0 = x := ⟨_, rfl⟩
      rw [hx] at hck
      obtain ⟨L, hL⟩ : ∃ L, L = numsB n (zs.take k) := ⟨_, rfl⟩
      have hLl : L.length ≤ 420 := by
        rw [hL, numsB_length]
        have : n * (zs.take k).length ≤ 7 * 60 := Nat.mul_le_mul h7 (by rw [List.length_take]; omega)
        omega
      rw [← hL]
      have HX := Lib.hid hx
      have HL := Lib.hid hL
      clear hx hL
      have hfx : FitN n x := by rw [← HX.out]; exact HF.out _ (by simp [List.getD_eq_getElem?_getD, List.getElem?_eq_getElem hlt])
      have HFD := Lib.hid (decide_eq_true hfx)
      obtain ⟨hx0, hx1⟩ := hfx
      obtain ⟨y, rfl⟩ := Int.eq_ofNat_of_zero_le hx0
      have hy : y < 9223372036854775807 := by
        have h2 : y < 256 ^ n := Int.ofNat_lt.1 (by rw [Int.natCast_pow]; exact hx1)
        exact Nat.lt_of_lt_of_le h2 (Nat.le_trans (Nat.pow_le_pow_right (by decide) h7) (by decide))
      have HY := Lib.hid hy
      obtain ⟨M, hM⟩ : ∃ M, M = numB n y := ⟨_, rfl⟩
      have hMl : M.length ≤ 7 := by rw [hM, numB_length]; exact h7
      have HM := Lib.hid hM
      clear hx0 hx1 hy hM
      go_wp2_with fail
      refine (fits_any _ _ _ h7).mono ?_
      rintro e w3 ⟨rfl, rfl⟩
      rw [HFD.out]
      go_wp2_with fail
      refine (refNum_any n y _ h7 HY.out).mono ?_
      rintro e w3 ⟨rfl, hb⟩
      rw [← HM.out]
      have HB3 := Lib.hid (HBR.out.trans (hb.mono HBR.out.size))
      clear hb
      go_wp2_with fail
      refine ⟨⟨k + 1, by omega, by go_num, ?_, HB3.out⟩, by simp [intOf]; omega⟩
      rw [numsB_snoc n zs k hlt, HX.out, append_toArray, HL.out, HM.out]
      rfl
    · obtain rfl : k = zs.length := by omega
      rw [List.take_of_length_le (Nat.le_refl _)]
      obtain ⟨L, hL⟩ : ∃ L, L = numsB n zs := ⟨_, rfl⟩
      rw [← hL]
      have HL := Lib.hid hL
      clear hL
      go_wp2_with fail
      refine (new_any _ _).mono ?_
      rintro e w3 ⟨rfl, rfl⟩
      obtain ⟨b0, hb0⟩ : ∃ b0, b0 = wr.heap.size := ⟨_, rfl⟩
      have HR := Lib.hid (Rd.new wr ⟨L.toArray⟩)
      have HB3 := Lib.hid (HBR.out.alloc HBR.out.size (.cells #[.string ⟨L.toArray⟩, .int .i64 0] 58))
      have hbb : w.heap.size ≤ b0 := by rw [hb0]; exact HBR.out.size
      rw [← hb0] at HR ⊢
      have HBB := Lib.hid hbb
      clear hb0 hbb
      obtain ⟨w4, hw4⟩ : ∃ w4, w4 = wr.alloc (.cells #[.string ⟨L.toArray⟩, .int .i64 0] 58) := ⟨_, rfl⟩
      rw [← hw4] at HB3 HR ⊢
      clear hw4
      go_wp2_with fail
      go_loopw [69] (fun i wr => ∃ k : Nat, k ≤ zs.length ∧ i = .int .i64 k ∧ Rd wr b0 ⟨(numsB n (zs.drop k)).toArray⟩ 0 ∧ Below w.heap.size w wr) (fun i _ => zs.length - (intOf i).toNat)
      case atStart => exact ⟨0, Nat.zero_le _, rfl, by rw [List.drop_zero, ← HL.out]; exact HR.out, HB3.out⟩
      case round =>
        obtain ⟨k, hk, rfl, hr, hb⟩ := hrel
        have HRR := Lib.hid hr
        have HBR2 := Lib.hid hb
        clear hr hb
        by_cases hlt : k < zs.length
        · obtain ⟨b, o, rfl, _, hck⟩ := (HV.out.below HBR2.out (Nat.le_refl _)).cellAt hlt
          obtain ⟨x, hx⟩ : ∃ x, zs.getD k 0 = x := ⟨_, rfl⟩
          have hfx : FitN n x := by rw [← hx]; exact HF.out _ (by simp [List.getD_eq_getElem?_getD, List.getElem?_eq_getElem hlt])
          rw [hx] at hck
          obtain ⟨hx0, hx1⟩ := hfx
          obtain ⟨y, rfl⟩ := Int.eq_ofNat_of_zero_le hx0
          have h2 : y < 256 ^ n := Int.ofNat_lt.1 (by rw [Int.natCast_pow]; exact hx1)
          have hc := numS_read n y h1 h7 h2 (numsB n (zs.drop (k + 1)))
          have hc2 := numsB_cons n zs k hlt
          rw [hx, Int.toNat_natCast] at hc2
          rw [← hc2] at hc
          have HC := Lib.hid hc
          clear hx0 hx1 h2 hc hc2 hx
          go_wp2_with fail
          refine (num_any _ _ _ _ HRR.out HC.out).mono ?_
          rintro e w5 ⟨rfl, hr, hg⟩
          have HR5 := Lib.hid hr
          have HB5 := Lib.hid (HBR2.out.grown hg HBR2.out.size (fun k e => by cases e; exact HBB.out))
          clear hr hg
          go_wp2_with fail
          exact ⟨⟨k + 1, by omega, by go_num, HR5.out, HB5.out⟩, by simp [intOf]; omega⟩
        · obtain rfl : k = zs.length := by omega
          have hr := HRR.out
          rw [List.drop_of_length_le (Nat.le_refl _)] at hr
          have HR6 : Hid (Rd wr b0 ⟨#[]⟩ 0) := Lib.hid hr
          clear hr
          go_wp2_with fail
          refine (end_any _ _ _ _ HR6.out).mono ?_
          rintro e w5 ⟨rfl, rfl⟩
          rw [show endE ⟨#[]⟩ 0 = 0 from rfl]
          go_wp2_with fail
          refine (num_any _ _ _ _ HR6.out (numS_empty n h1 h7)).mono ?_
          rintro e w5 ⟨rfl, hr, hg⟩
          have HR7 := Lib.hid hr
          have HB7 := Lib.hid (HBR2.out.grown hg HBR2.out.size (fun k e => by cases e; exact HBB.out))
          clear hr hg
          go_wp2_with fail
          refine (err_any _ _ _ _ HR7.out).mono ?_
          rintro e w6 ⟨rfl, rfl⟩
          go_wp2_with fail
          go_ret
          exact ⟨rfl, HB7.out⟩

theorem walk_OctetNums (n : Int) (v : Value) (zs : List Int) (w : World) (_w0 : (Lit.int .i64 n).wf = true) (hv : IntsOf .i64 w v zs) (_f : ∀ n ∈ zs, (Lit.int .i64 n).wf = true) :
    Calls Try.prog 3 #[.int .i64 n, v] w fun e w' => e = .returned (.bool true) ∧ Below w.heap.size w w' := by
  rcases Nat.lt_or_ge 60 zs.length with h | h
  · exact nums_many n v zs w hv h
  · by_cases hn : 1 ≤ n ∧ n ≤ 7
    · obtain ⟨m, rfl⟩ := Int.eq_ofNat_of_zero_le (show 0 ≤ n by omega)
      by_cases hf : ∀ x ∈ zs, FitN m x
      · exact nums_ok m v zs w hv h (by omega) (by omega) hf
      · exact nums_range m v zs w hv h (by omega) (by omega) hf
    · exact nums_bad n v zs w hv h hn
end Go.Proofs.Ytjkcahandfacoaa
