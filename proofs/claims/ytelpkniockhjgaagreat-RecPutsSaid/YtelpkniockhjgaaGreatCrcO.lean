/-
  The contracts of a table's sum and of what it calls: all the bytes of a text, of texts.
-/
import Derived.Test.YtelpkniockhjgaaGreatCrc
namespace Go.Proofs.YtelpkniockhjgaaGreat.Cr
open Go.RowKit Go.Deep

theorem Tab.drewN {w : World} {b : Nat} (h : Tab w b) (n : Nat) : Tab (w.drewN n) b := h
theorem regL_split (c : Nat) (s : ByteArray) (k : Nat) : regL c s.data.toList = regL (regL c (s.data.toList.take k)) (s.data.toList.drop k) := by
  rw [← regL_append, List.take_append_drop]
theorem drop_list (s : ByteArray) (k : Nat) : (s.extract k s.size).data.toList = s.data.toList.drop k := by
  rw [ByteArray.data_extract, Array.toList_extract, List.extract_eq_take_drop, List.take_of_length_le (by simp)]

set_option maxRecDepth 100000 in
set_option maxHeartbeats 1000000 in
theorem over_any (b r : Nat) (s : ByteArray) (w : World) (hr : r < 4294967296) (hs : s.size ≤ maxLen) (h : Tab w b) : Calls Tryz.prog 70 #[.pointer (some ⟨b, 0, none⟩), .int .u32 r, .string s] w fun e w' => e = .returned (.int .u32 (regL r s.data.toList : Nat)) ∧ ∃ k, w' = w.drewN k := by
  unfold maxLen at hs
  have H := Lib.hid h
  clear h
  obtain ⟨R, hR⟩ : ∃ R, R = regL r s.data.toList := ⟨_, rfl⟩
  rw [← hR]
  have HR := Lib.hid hR
  clear hR
  go_enter Tryz.func70, Tryz.ntmps70
  go_wp2_with fail
  go_loopw [1, 2] (fun x y wr => ∃ (c : Nat) (t : ByteArray) (n : Nat), x = .int .u32 (c : Nat) ∧ y = .string t ∧ c < 4294967296 ∧ t.size ≤ s.size ∧ regL c t.data.toList = R ∧ wr = w.drewN n) (fun _ y _ => match y with | .string t => t.size | _ => 0)
  case atStart => exact ⟨r, s, 0, rfl, rfl, hr, Nat.le_refl _, HR.out.symm, rfl⟩
  case round =>
    obtain ⟨c, t, n, rfl, rfl, hc, hts, hreg, rfl⟩ := hrel
    have HREG := Lib.hid hreg
    clear hreg
    by_cases hlt : 4 ≤ t.size
    · go_wp2_with fail
      refine (leap_any b c t _ hc hlt (H.out.drewN n)).mono ?_
      rintro e w1 ⟨rfl, d, rfl⟩
      have HREG2 : Hid (regL (regL c (t.data.toList.take 4)) (t.data.toList.drop 4) = R) := Lib.hid (by rw [← regL_split]; exact HREG.out)
      have hc2 := regL_lt hc (t.data.toList.take 4)
      obtain ⟨c2, hc2e⟩ : ∃ c2, c2 = regL c (t.data.toList.take 4) := ⟨_, rfl⟩
      rw [← hc2e] at hc2 ⊢
      have HC2 := Lib.hid hc2e
      clear hc2e
      go_wp2_with fail
      refine ⟨⟨c2, t.extract 4 t.size, n + d, rfl, rfl, hc2, ?_, ?_, rfl⟩, ?_⟩
      · simp [ByteArray.size_extract]; omega
      · rw [drop_list, HC2.out]; exact HREG2.out
      · simp [ByteArray.size_extract]; omega
    · go_wp2_with fail
      go_loop [1, 19] (fun x i => ∃ k : Nat, k ≤ t.size ∧ i = .int .i64 k ∧ x = .int .u32 (regL c (t.data.toList.take k) : Nat)) (fun _ i => t.size - (intOf i).toNat)
      case atStart => exact ⟨0, Nat.zero_le _, rfl, rfl⟩
      case round =>
        obtain ⟨k, hk, rfl, rfl⟩ := hrel
        by_cases hkt : k < t.size
        · have hcc := regL_lt hc (t.data.toList.take k)
          have hsn := regL_snoc c (t.data.toList.take k) t[k]
          rw [← take_snoc t k hkt] at hsn
          obtain ⟨q, hq⟩ : ∃ q, q = regL c (t.data.toList.take k) := ⟨_, rfl⟩
          rw [← hq] at hcc hsn ⊢
          have HSN := Lib.hid hsn
          have HQ := Lib.hid hq
          have hb := t[k].toNat_lt
          clear hsn hq
          go_wp2_with fail
          refine (step_any b q t[k].toNat _ hcc hb (H.out.drewN n)).mono ?_
          rintro e w1 ⟨rfl, rfl⟩
          go_wp2_with fail
          exact ⟨⟨k + 1, by omega, by go_num, by rw [HSN.out]⟩, by simp [intOf]; omega⟩
        · obtain rfl : k = t.size := by omega
          have hreg := HREG.out
          go_wp2_with fail
          go_ret
          refine ⟨?_, n, rfl⟩
          rw [List.take_of_length_le (by simp)]
          rw [← HREG.out]
          rfl

/-- The bytes of texts, one behind the other. -/
def flatB (ts : List ByteArray) : List UInt8 := ts.flatMap fun t => t.data.toList
theorem flatB_snoc (ts : List ByteArray) {k : Nat} (h : k < ts.length) : flatB (ts.take (k + 1)) = flatB (ts.take k) ++ (ts.getD k ⟨#[]⟩).data.toList := by
  unfold flatB
  rw [take_snoc' ts h, List.flatMap_append, List.flatMap_singleton]
theorem flatB_one (t : ByteArray) : flatB [t] = t.data.toList := by simp [flatB]

theorem not_val (q : Nat) (hq : q < 4294967296) : wrap64 (bits .xor .u32 IntKind.u32.max (q : Int)) = ((4294967295 - q : Nat) : Int) := by
  have h : bits .xor .u32 IntKind.u32.max (q : Int) = ((4294967295 ^^^ q : Nat) : Int) := u32_xor_nat 4294967295 q (by omega) hq
  rw [h, ← ones_sub hq]
  exact IntWalk.wrap64_in _ ⟨by omega, by omega⟩

theorem sum_none (v : Value) (w : World) : Calls Tryz.prog 50 #[.pointer none, v] w fun e w' => e = .returned (.int .i64 0) ∧ w = w' := by
  go_enter Tryz.func50, Tryz.ntmps50
  go_wp2_with fail
  go_ret
  exact ⟨rfl, rfl⟩

set_option maxRecDepth 100000 in
set_option maxHeartbeats 1000000 in
theorem sum_any (b : Nat) (v : Value) (ts : List ByteArray) (w : World) (h : Tab w b) (hv : Strs w 0 v ts) (hl : ts.length ≤ maxLen) (hs : ∀ t ∈ ts, t.size ≤ maxLen) : Calls Tryz.prog 50 #[.pointer (some ⟨b, 0, none⟩), v] w fun e w' => e = .returned (.int .i64 (crcL (flatB ts) : Nat)) ∧ ∃ k, w' = w.drewN k := by
  unfold maxLen at hl
  have H := Lib.hid h
  have HS := Lib.hid hs
  have HV := Lib.hid hv
  obtain ⟨a, cap, rfl⟩ := hv.form
  clear h hs hv
  go_enter Tryz.func50, Tryz.ntmps50
  go_wp2_with fail
  go_loopw [5, 12] (fun x i wr => ∃ (k n : Nat), k ≤ ts.length ∧ i = .int .i64 k ∧ x = .int .u32 (regL 4294967295 (flatB (ts.take k)) : Nat) ∧ wr = w.drewN n) (fun _ i _ => ts.length - (intOf i).toNat)
  case atStart => exact ⟨0, 0, Nat.zero_le _, rfl, rfl, rfl⟩
  case round =>
    obtain ⟨k, n, hk, rfl, rfl, rfl⟩ := hrel
    have hc := regL_lt (r := 4294967295) (by decide) (flatB (ts.take k))
    by_cases hlt : k < ts.length
    · obtain ⟨b1, o1, rfl, hck⟩ := HV.out.cellAt hlt
      have hsn := flatB_snoc ts hlt
      have hts := HS.out (ts.getD k ⟨#[]⟩) (by simp [List.getD_eq_getElem?_getD, List.getElem?_eq_getElem hlt])
      obtain ⟨t, ht⟩ : ∃ t, t = ts.getD k ⟨#[]⟩ := ⟨_, rfl⟩
      obtain ⟨q, hq⟩ : ∃ q, q = regL 4294967295 (flatB (ts.take k)) := ⟨_, rfl⟩
      rw [← ht] at hck hsn hts
      rw [← hq] at hc ⊢
      have HSN : Hid (regL 4294967295 (flatB (ts.take (k + 1))) = regL q t.data.toList) := Lib.hid (by rw [hsn, regL_append, hq])
      have HT := Lib.hid ht
      have HQ := Lib.hid hq
      have HTS := Lib.hid hts
      clear hsn ht hq hts
      go_wp2_with fail
      refine (over_any b q t _ hc HTS.out (H.out.drewN n)).mono ?_
      rintro e w1 ⟨rfl, d, rfl⟩
      go_wp2_with fail
      exact ⟨⟨k + 1, n + d, by omega, by go_num, by rw [HSN.out], rfl⟩, by simp [intOf]; omega⟩
    · obtain rfl : k = ts.length := by omega
      rw [List.take_of_length_le (Nat.le_refl _)] at hc ⊢
      obtain ⟨q, hq⟩ : ∃ q, q = regL 4294967295 (flatB ts) := ⟨_, rfl⟩
      rw [← hq] at hc ⊢
      have HQ : Hid (crcL (flatB ts) = 4294967295 - q) := Lib.hid (by rw [hq]; rfl)
      clear hq
      go_wp2_with fail
      go_ret
      refine ⟨?_, n, rfl⟩
      rw [HQ.out]
      show Ending.returned (.int .i64 _) = _
      rw [not_val q hc]
end Go.Proofs.YtelpkniockhjgaaGreat.Cr
