/-
  CrcSums and CrcTables, walked: true for every input; only new memory is written.
-/
import Derived.Test.YtnghbgedbheodaaCrcOpen
namespace Go.Proofs.Ytnghbgedbheodaa
open Go.RowKit Go.Deep

theorem strs_two (w : World) (s t : ByteArray) : Strs (w.alloc (.cells #[.string s, .string t] 9)) 0 (.slice (some ⟨w.heap.size, 0, none⟩) 2 2) [s, t] :=
  ⟨some ⟨w.heap.size, 0, none⟩, 2, rfl, .inr ⟨_, _, rfl, Nat.zero_le _, fun i hi => by
    match i, hi with
    | 0, _ => simp
    | 1, _ => simp⟩⟩

theorem known : crcL [49, 50, 51, 52, 53, 54, 55, 56, 57] = 3421780262 := by kernel_rfl
theorem known1 : crcL (flatB [⟨#[49, 50, 51, 52, 53, 54, 55, 56, 57]⟩]) = 3421780262 := known
theorem known2 : crcL (flatB [⟨#[49, 50, 51, 52, 53]⟩, ⟨#[54, 55, 56, 57]⟩]) = 3421780262 := known

set_option maxRecDepth 100000 in
theorem awake_any (w : World) : Calls Try.prog 8 #[] w fun e w' => e = .returned (.bool true) ∧ Below w.heap.size w w' := by
  have HS := Lib.hid (strs_one w ⟨#[49, 50, 51, 52, 53, 54, 55, 56, 57]⟩)
  have HB0 := Lib.hid ((Below.refl w.heap.size w).alloc (Nat.le_refl _) (.cells #[.string ⟨#[49, 50, 51, 52, 53, 54, 55, 56, 57]⟩] 9))
  go_enter Try.func8, Try.ntmps8
  go_wp2_with fail
  refine (sumF_any _ [⟨#[49, 50, 51, 52, 53, 54, 55, 56, 57]⟩] _ HS.out (by decide) (by decide)).mono ?_
  rintro e w1 ⟨rfl, hb⟩
  rw [known1]
  have HB1 := Lib.hid (HB0.out.trans (hb.mono HB0.out.size))
  clear hb
  go_wp2_with fail
  refine (new_any _).mono ?_
  rintro e w2 ⟨rfl, ht, hb⟩
  have HT := Lib.hid ht
  have HB2 := Lib.hid (HB1.out.trans (hb.mono HB1.out.size))
  have HS2 := Lib.hid (strs_two w2 ⟨#[49, 50, 51, 52, 53]⟩ ⟨#[54, 55, 56, 57]⟩)
  clear ht hb
  go_wp2_with fail
  refine (sum_any _ _ [⟨#[49, 50, 51, 52, 53]⟩, ⟨#[54, 55, 56, 57]⟩] _ (HT.out.alloc _) HS2.out (by decide) (by decide)).mono ?_
  rintro e w3 ⟨rfl, k, rfl⟩
  rw [known2]
  go_wp2_with fail
  go_ret
  exact ⟨rfl, below_drewN (HB2.out.alloc HB2.out.size _) k⟩

/-- The bytes of texts, as one text. -/
theorem flat_add (ts : List ByteArray) {k : Nat} (h : k < ts.length) : (⟨(flatB (ts.take k)).toArray⟩ : ByteArray) ++ ts.getD k ⟨#[]⟩ = ⟨(flatB (ts.take (k + 1))).toArray⟩ := by
  rw [flatB_snoc ts h, ← append_toArray, Array.toArray_toList]
theorem flatB_size (ts : List ByteArray) {t : ByteArray} (h : t ∈ ts) : t.size ≤ (flatB ts).length := by
  unfold flatB
  induction ts with
  | nil => cases h
  | cons a ts ih =>
    rw [List.flatMap_cons, List.length_append]
    rcases List.mem_cons.1 h with rfl | h
    · show t.data.size ≤ _
      rw [Array.length_toList]
      omega
    · have := ih h
      omega

set_option maxRecDepth 100000 in
set_option maxHeartbeats 1000000 in
theorem walk_CrcSums (v : Value) (ts : List ByteArray) (w : World) (hv : Strs w 0 v ts) (hl : ts.length ≤ maxLen) (hr : ∀ t ∈ ts, t.size ≤ 140737488351232) :
    Calls Try.prog 3 #[v] w fun e w' => e = .returned (.bool true) ∧ Below w.heap.size w w' := by
  unfold maxLen at hl
  have HV := Lib.hid hv
  have HR := Lib.hid hr
  obtain ⟨a, cap, rfl⟩ := hv.form
  clear hv hr
  go_enter Try.func3, Try.ntmps3
  go_wp2_with fail
  refine (awake_any _).mono ?_
  rintro e w1 ⟨rfl, hb⟩
  have HB1 := Lib.hid hb
  clear hb
  go_wp2_with fail
  go_loop [3, 13] (fun s i => ∃ k : Nat, k ≤ ts.length ∧ i = .int .i64 k ∧ s = .string ⟨(flatB (ts.take k)).toArray⟩ ∧ (flatB (ts.take k)).length ≤ 3000) (fun _ i => ts.length - (intOf i).toNat)
  case atStart => exact ⟨0, Nat.zero_le _, rfl, rfl, by simp [flatB]⟩
  case round =>
    obtain ⟨k, hk, rfl, rfl, hsz⟩ := hrel
    by_cases hlt : k < ts.length
    · obtain ⟨b, o, rfl, hck⟩ := (HV.out.below HB1.out (Nat.le_refl _)).cellAt hlt
      have HADD := Lib.hid (flat_add ts hlt)
      obtain ⟨t, ht⟩ : ∃ t, t = ts.getD k ⟨#[]⟩ := ⟨_, rfl⟩
      rw [← ht] at hck HADD
      obtain ⟨A, hA⟩ : ∃ A : ByteArray, A = ⟨(flatB (ts.take k)).toArray⟩ := ⟨_, rfl⟩
      rw [← hA] at HADD ⊢
      have htr : t.size ≤ 140737488351232 := HR.out t (by rw [ht]; simp [List.getD_eq_getElem?_getD, List.getElem?_eq_getElem hlt])
      have hAs : A.size ≤ 3000 := by rw [hA]; simpa [ByteArray.size] using hsz
      have HT := Lib.hid ht
      have HA := Lib.hid hA
      clear ht hA hsz
      by_cases hsz2 : A.size + t.size ≤ 3000
      · go_wp2_with fail
        refine ⟨⟨k + 1, by omega, by go_num, by rw [HADD.out], ?_⟩, by simp [intOf]; omega⟩
        have h := congrArg ByteArray.size HADD.out
        rw [ByteArray.size_append] at h
        have h2 : (⟨(flatB (ts.take (k + 1))).toArray⟩ : ByteArray).size = (flatB (ts.take (k + 1))).length := by simp [ByteArray.size]
        omega
      · go_wp2_with fail
        go_ret
        exact ⟨rfl, HB1.out⟩
    · obtain rfl : k = ts.length := by omega
      rw [List.take_of_length_le (Nat.le_refl _)] at hsz ⊢
      by_cases h60 : 60 < ts.length
      · go_wp2_with fail
        go_ret
        exact ⟨rfl, HB1.out⟩
      · obtain ⟨A, hA⟩ : ∃ A : ByteArray, A = ⟨(flatB ts).toArray⟩ := ⟨_, rfl⟩
        rw [← hA]
        have hAs : A.size ≤ 3000 := by rw [hA]; simpa [ByteArray.size] using hsz
        have hAl : A.data.toList = flatB ts := by rw [hA]
        obtain ⟨n, hn⟩ : ∃ n, n = crcL (flatB ts) := ⟨_, rfl⟩
        have HN := Lib.hid hn
        have HA := Lib.hid hAl
        have HM : Hid (∀ t ∈ ts, t.size ≤ maxLen) := Lib.hid fun t ht => by have := flatB_size ts ht; unfold maxLen; omega
        have HM2 : Hid (ts.length ≤ maxLen) := Lib.hid (by unfold maxLen; omega)
        clear hA hAl hn hsz
        go_wp2_with fail
        refine (refSum_any A _ (by unfold maxLen; omega)).mono ?_
        rintro e w2 ⟨rfl, rfl⟩
        rw [HA.out, ← HN.out]
        go_wp2_with fail
        refine (new_any _).mono ?_
        rintro e w3 ⟨rfl, ht, hb⟩
        have HT3 := Lib.hid ht
        have HB3 := Lib.hid (HB1.out.trans (hb.mono HB1.out.size))
        clear ht hb
        go_wp2_with fail
        refine (sumF_any _ ts _ (HV.out.below HB3.out (Nat.le_refl _)) HM2.out HM.out).mono ?_
        rintro e w4 ⟨rfl, hb⟩
        rw [← HN.out]
        have HT4 := Lib.hid (HT3.out.below hb HT3.out.lt)
        have HB4 := Lib.hid (HB3.out.trans (hb.mono HB3.out.size))
        clear hb
        go_wp2_with fail
        refine (sum_any _ _ ts _ HT4.out (HV.out.below HB4.out (Nat.le_refl _)) HM2.out HM.out).mono ?_
        rintro e w5 ⟨rfl, d, rfl⟩
        rw [← HN.out]
        have HS5 := Lib.hid (strs_one (w4.drewN d) A)
        have HT5 := Lib.hid ((HT4.out.drewN d).alloc (.cells #[.string A] 9))
        go_wp2_with fail
        refine (sum_one _ A n _ _ (by rw [HA.out, HN.out]) (by omega) HT5.out HS5.out).mono ?_
        rintro e w6 ⟨rfl, d2, rfl⟩
        go_wp2_with fail
        refine (sum_none _ _).mono ?_
        rintro e w7 ⟨rfl, rfl⟩
        go_wp2_with fail
        go_ret
        refine ⟨rfl, ?_⟩
        exact below_drewN ((below_drewN HB4.out d).alloc (below_drewN HB4.out d).size _) _

theorem atV_in {k b : Nat} (hk : k < 4) (hb : b < 256) : atV (k : Int) (b : Int) = itr (8 * (k + 1)) b := by
  rw [atV, if_pos (by omega), Int.toNat_natCast, Int.toNat_natCast]
theorem atV_out {k b : Int} (h : ¬ (0 ≤ k ∧ k < 4 ∧ 0 ≤ b ∧ b < 256)) : atV k b = 0 := if_neg h

set_option maxRecDepth 100000 in
set_option maxHeartbeats 1000000 in
theorem walk_CrcTables (k b : Int) (w : World) (hk : (Lit.int .i64 k).wf = true) (hb : (Lit.int .i64 b).wf = true) :
    Calls Try.prog 4 #[.int .i64 k, .int .i64 b] w fun e w' => e = .returned (.bool true) ∧ Below w.heap.size w w' := by
  clear hk hb
  by_cases hin : 0 ≤ k ∧ k < 4 ∧ 0 ≤ b ∧ b < 256
  · obtain ⟨h1, h2, h3, h4⟩ := hin
    obtain ⟨j, rfl⟩ := Int.eq_ofNat_of_zero_le h1
    obtain ⟨i, rfl⟩ := Int.eq_ofNat_of_zero_le h3
    have hj : j < 4 := by omega
    have hi : i < 256 := by omega
    have HA := Lib.hid (atV_in hj hi)
    go_enter Try.func4, Try.ntmps4
    go_wp2_with fail
    refine (awake_any _).mono ?_
    rintro e w1 ⟨rfl, hb⟩
    have HB1 := Lib.hid hb
    clear hb
    go_wp2_with fail
    refine (new_any _).mono ?_
    rintro e w2 ⟨rfl, ht, hb⟩
    have HT := Lib.hid ht
    have HB2 := Lib.hid (HB1.out.trans (hb.mono HB1.out.size))
    clear ht hb
    go_wp2_with fail
    refine (at_none _ _ _).mono ?_
    rintro e w3 ⟨rfl, rfl⟩
    go_wp2_with fail
    refine (at_any _ _ _ _ HT.out).mono ?_
    rintro e w3 ⟨rfl, rfl⟩
    rw [HA.out]
    go_wp2_with fail
    refine (refAt_any j i _ hj hi).mono ?_
    rintro e w3 ⟨rfl, rfl⟩
    go_wp2_with fail
    go_ret
    exact ⟨rfl, HB2.out⟩
  · have HA := Lib.hid (atV_out hin)
    by_cases h1 : 0 ≤ k <;> by_cases h2 : k < 4 <;> by_cases h3 : 0 ≤ b <;> by_cases h4 : b < 256
    any_goals (exfalso; omega)
    all_goals
      clear hin
      go_enter Try.func4, Try.ntmps4
      go_wp2_with fail
      refine (awake_any _).mono ?_
      rintro e w1 ⟨rfl, hb⟩
      have HB1 := Lib.hid hb
      clear hb
      go_wp2_with fail
      refine (new_any _).mono ?_
      rintro e w2 ⟨rfl, ht, hb⟩
      have HT := Lib.hid ht
      have HB2 := Lib.hid (HB1.out.trans (hb.mono HB1.out.size))
      clear ht hb
      go_wp2_with fail
      refine (at_none _ _ _).mono ?_
      rintro e w3 ⟨rfl, rfl⟩
      go_wp2_with fail
      refine (at_any _ _ _ _ HT.out).mono ?_
      rintro e w3 ⟨rfl, rfl⟩
      rw [HA.out]
      go_wp2_with fail
      go_ret
      exact ⟨rfl, HB2.out⟩
end Go.Proofs.Ytnghbgedbheodaa
