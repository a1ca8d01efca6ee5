/-
  CrcSeals, walked: true for every input; only new memory is written.
-/
import Derived.Test.YtnghbgedbheodaaSealN
import Derived.Test.YtnghbgedbheodaaCrcW
import Derived.OpenShut
namespace Go.Proofs.Ytnghbgedbheodaa
open Go.RowKit Go.Deep

set_option maxRecDepth 100000 in
set_option maxHeartbeats 1000000 in
theorem seals_long (s raw : ByteArray) (at' by' : Int) (w : World) (h : 2000 < s.size ∨ s.size ≤ 2000 ∧ 2000 < raw.size) (hs : s.size ≤ maxLen) (hr : raw.size ≤ maxLen) :
    Calls Try.prog 5 #[.agg #[.string s, .int .i64 at', .int .u8 by'], .string raw] w fun e w' => e = .returned (.bool true) ∧ Below w.heap.size w w' := by
  unfold maxLen at hs hr
  rcases h with h | ⟨h, h2⟩
  all_goals
    go_enter Try.func5, Try.ntmps5
    go_wp2_with fail
    refine (awake_any _).mono ?_
    rintro e w1 ⟨rfl, hb⟩
    have c0 : w1.cell? ⟨w.heap.size, 0, none⟩ = some (.string s) := (hb.cell (p := ⟨w.heap.size, 0, none⟩) (by simp)).trans (by simp)
    have c1 : w1.cell? ⟨w.heap.size, 1, none⟩ = some (.int .i64 at') := (hb.cell (p := ⟨w.heap.size, 1, none⟩) (by simp)).trans (by simp)
    have c2 : w1.cell? ⟨w.heap.size, 2, none⟩ = some (.int .u8 by') := (hb.cell (p := ⟨w.heap.size, 2, none⟩) (by simp)).trans (by simp)
    have HB := Lib.hid (((Below.refl w.heap.size w).alloc (Nat.le_refl _) _).trans (hb.mono (by simp)))
    clear hb
    go_wp2_with fail
    go_quiet (fail)
    go_wp2_with fail
    go_ret
    exact ⟨rfl, below_drewN HB.out _⟩

theorem bytesRow_size (s : ByteArray) (cap : Nat) : s.size ≤ (bytesRow s cap).size := by
  unfold bytesRow
  rw [Array.size_append, Array.size_map]
  exact Nat.le_add_right _ _
theorem rowW_unfrozen (W : World) (t : ByteArray) (j : Nat) (hj : j < t.size) : (rowW W t).frozen? ⟨W.heap.size, j, none⟩ = false := by
  have hs := bytesRow_size t (grownCap W t.size 0 5)
  have h := World.frozen?_alloc_mark W.drew (bytesRow t (grownCap W t.size 0 5)) 5 (bytesRow t (grownCap W t.size 0 5)).size ((bytesRow t (grownCap W t.size 0 5)).size + 1) j
  have hd : decide ((bytesRow t (grownCap W t.size 0 5)).size ≤ j) = false := by rw [decide_eq_false_iff_not]; omega
  rw [hd, Bool.false_and] at h
  exact h

theorem turned_conv (W : World) (X : ByteArray) (i z K : Nat) (hi : i < X.size) (hz : z < 256) :
    (convert 36 9 (.slice (some ⟨W.heap.size, 0, none⟩) X.size K)).run Try.prog ((rowW W X).setCell ⟨W.heap.size, i, none⟩ (.int .u8 z)) =
      .ok (.string ⟨(X.data.toList.set i (UInt8.ofNat z)).toArray⟩) ((rowW W X).setCell ⟨W.heap.size, i, none⟩ (.int .u8 z)) := by
  have hl : (X.data.toList.set i (UInt8.ofNat z)).length = X.size := by rw [List.length_set]; rfl
  have h := run_convert_bytes_back (P := Try.prog) ((rowW W X).setCell ⟨W.heap.size, i, none⟩ (.int .u8 z)) 36 9 5 ⟨W.heap.size, 0, none⟩ K (X.data.toList.set i (UInt8.ofNat z)) Try.underlying36 Try.underlying5 Try.underlying9 fun j hj => by
    rw [add_none, Nat.zero_add]
    have hj' : j < X.size := by rw [← hl]; exact hj
    by_cases hji : j = i
    · subst hji
      rw [World.cell?_setCell_same _ _ _ (rowW_cell W X j hj'), List.getElem_set_self, UInt8.toNat_ofNat', Nat.mod_eq_of_lt (by omega)]
    · rw [World.cell?_setCell_other _ _ _ _ (by simp [hji]), rowW_cell W X j hj', List.getElem_set_ne (Ne.symm hji)]
      rfl
  rw [hl] at h
  exact h

theorem xor_turns {x y : Nat} (hx : x < 256) (hy : y < 256) (h0 : y ≠ 0) : UInt8.ofNat (x ^^^ y) ≠ UInt8.ofNat x := by
  intro h
  have h1 := congrArg UInt8.toNat h
  have hl : x ^^^ y < 256 := Nat.xor_lt_two_pow (n := 8) hx hy
  rw [UInt8.toNat_ofNat', UInt8.toNat_ofNat', Nat.mod_eq_of_lt (by omega), Nat.mod_eq_of_lt (by omega)] at h1
  apply h0
  exact xor_right (c := x) (by rw [h1, Nat.xor_zero])

set_option maxRecDepth 100000 in
set_option maxHeartbeats 4000000 in
theorem seals_short (s raw : ByteArray) (at' by' : Int) (w : World) (h : s.size ≤ 2000) (h2 : raw.size ≤ 2000) (hby : 0 ≤ by' ∧ by' < 256) :
    Calls Try.prog 5 #[.agg #[.string s, .int .i64 at', .int .u8 by'], .string raw] w fun e w' => e = .returned (.bool true) ∧ Below w.heap.size w w' := by
  go_enter Try.func5, Try.ntmps5
  go_wp2_with fail
  refine (awake_any _).mono ?_
  rintro e w1 ⟨rfl, hb⟩
  have c0 : w1.cell? ⟨w.heap.size, 0, none⟩ = some (.string s) := (hb.cell (p := ⟨w.heap.size, 0, none⟩) (by simp)).trans (by simp)
  have c1 : w1.cell? ⟨w.heap.size, 1, none⟩ = some (.int .i64 at') := (hb.cell (p := ⟨w.heap.size, 1, none⟩) (by simp)).trans (by simp)
  have c2 : w1.cell? ⟨w.heap.size, 2, none⟩ = some (.int .u8 by') := (hb.cell (p := ⟨w.heap.size, 2, none⟩) (by simp)).trans (by simp)
  have HB1 := Lib.hid (((Below.refl w.heap.size w).alloc (Nat.le_refl _) _).trans (hb.mono (by simp)))
  clear hb
  go_wp2_with fail
  go_quiet (fail)
  go_wp2_with fail
  refine (new_any _).mono ?_
  rintro e w2 ⟨rfl, ht, hb⟩
  clear c0 c1 c2
  have HT2 := Lib.hid ht
  have HB2 := Lib.hid ((below_drewN HB1.out _).trans (hb.mono (below_drewN HB1.out _).size))
  clear ht hb HB1
  go_wp2_with fail
  refine (seal_any _ s _ HT2.out (by omega)).mono ?_
  rintro e w3 ⟨rfl, hb⟩
  have HT3 := Lib.hid (HT2.out.below hb HT2.out.lt)
  have HB3 := Lib.hid (HB2.out.trans (hb.mono HB2.out.size))
  obtain ⟨X, hX⟩ : ∃ X : ByteArray, X = ⟨(sealB s).toArray⟩ := ⟨_, rfl⟩
  have hXs : X.size = 4 + s.size := by rw [hX, size_of, sealB_length]
  have hxo : openB X = true := by rw [hX]; exact sealed_opens s
  have hxb : openS X = s := by rw [hX]; exact sealed_back s
  rw [← hX]
  have HXO := Lib.hid hxo
  have HXB := Lib.hid hxb
  have HX := Lib.hid hX
  have HXS := Lib.hid hXs
  have hXl : X.size ≤ 2004 := by omega
  clear hb hX hxo hxb hXs HT2 HB2
  go_wp2_with fail
  refine (open_any _ X _ HT3.out (by omega)).mono ?_
  rintro e w4 ⟨rfl, hb⟩
  rw [HXO.out, HXB.out]
  have HT4 := Lib.hid (HT3.out.below hb HT3.out.lt)
  have HB4 := Lib.hid (HB3.out.trans (hb.mono HB3.out.size))
  clear hb HT3 HB3
  go_wp2_with fail
  refine (refSeal_any s _ (by omega)).mono ?_
  rintro e w5 ⟨rfl, hb⟩
  rw [← HX.out]
  have HT5 := Lib.hid (HT4.out.below hb HT4.out.lt)
  have HB5 := Lib.hid (HB4.out.trans (hb.mono HB4.out.size))
  clear hb HT4 HB4
  rcases (show (0 ≤ at' ∧ at' < X.size ∧ by' ≠ 0) ∨ at' < 0 ∨ (0 ≤ at' ∧ (X.size : Int) ≤ at') ∨ (0 ≤ at' ∧ at' < X.size ∧ by' = 0) by omega) with hat | hat | hat | hat
  case' inl =>
    obtain ⟨ha, hlt, hne⟩ := hat
    obtain ⟨i, rfl⟩ := Int.eq_ofNat_of_zero_le ha
    obtain ⟨y, rfl⟩ := Int.eq_ofNat_of_zero_le hby.1
    have hi : i < X.size := by omega
    have hbn : ((y : Int) != 0) = true := by simpa using hne
    have hcv := rowW_conv w5 X
    have hce := rowW_cell w5 X i hi
    have hfr := rowW_unfrozen w5 X i hi
    obtain ⟨K, hK⟩ : ∃ K, K = grownCap w5 X.size 0 5 := ⟨_, rfl⟩
    obtain ⟨R, hR⟩ : ∃ R, R = rowW w5 X := ⟨_, rfl⟩
    rw [← hK, ← hR] at hcv
    rw [← hR] at hce hfr
    have hxy := u8_xor_nat X[i].toNat y X[i].toNat_lt (by omega)
    unfold by8 at hce
    have hz : X[i].toNat ^^^ y < 256 := Nat.xor_lt_two_pow (n := 8) X[i].toNat_lt (by omega)
    have htc := turned_conv w5 X i _ K hi hz
    have hno : openB ⟨(X.data.toList.set i (UInt8.ofNat (X[i].toNat ^^^ y))).toArray⟩ = false := by
      have hX := HX.out
      subst hX
      refine turned_not s i _ hi ?_
      have h1 := xor_turns (sealB s)[i].toNat_lt (show y < 256 by omega) (show y ≠ 0 by omega)
      rwa [UInt8.ofNat_toNat] at h1
    have hys : (⟨(X.data.toList.set i (UInt8.ofNat (X[i].toNat ^^^ y))).toArray⟩ : ByteArray).size = X.size := by rw [size_of, List.length_set]; rfl
    obtain ⟨Y, hY⟩ : ∃ Y : ByteArray, Y = ⟨(X.data.toList.set i (UInt8.ofNat (X[i].toNat ^^^ y))).toArray⟩ := ⟨_, rfl⟩
    rw [← hY] at htc hno hys
    rw [← hR] at htc
    have HNO := Lib.hid hno
    have HNS := Lib.hid (not_opened hno)
    have HYL : Hid (Y.size ≤ 2004) := Lib.hid (by omega)
    have hbr : Below w5.heap.size w5 (R.setCell ⟨w5.heap.size, i, none⟩ (.int .u8 (X[i].toNat ^^^ y : Nat))) := by rw [hR]; exact (rowW_below w5 X).setCell (Nat.le_refl _) _
    have HBR := Lib.hid (HB5.out.trans (hbr.mono HB5.out.size))
    have HTR := Lib.hid (HT5.out.below hbr HT5.out.lt)
    clear ha hne hK hR hz hno hys hY hbr HT5 HB5
    go_wp2_with fail
    refine (open_any _ Y _ HTR.out (Nat.le_trans HYL.out (by omega))).mono ?_
    rintro e w6 ⟨rfl, hb⟩
    rw [HNO.out, HNS.out]
    have HT5 := Lib.hid (HTR.out.below hb HTR.out.lt)
    have HB5 := Lib.hid (HBR.out.trans (hb.mono HBR.out.size))
    clear hb HTR HBR htc hce hfr hcv hxy
    go_wp2_with fail
    clear hbn hlt
  case' inr.inl => go_wp2_with fail
  case' inr.inr.inl =>
    obtain ⟨ha, hlt⟩ := hat
    go_wp2_with fail
    clear ha hlt
  case' inr.inr.inr =>
    obtain ⟨ha, hlt, rfl⟩ := hat
    go_wp2_with fail
    clear ha hlt
  all_goals
    refine (open_none raw _).mono ?_
    rintro e w7 ⟨rfl, rfl⟩
    go_wp2_with fail
    refine (seal_none s _).mono ?_
    rintro e w7 ⟨rfl, rfl⟩
    go_wp2_with fail
    refine (open_any _ raw _ HT5.out (by omega)).mono ?_
    rintro e w8 ⟨rfl, hb⟩
    have HB8 := Lib.hid (HB5.out.trans (hb.mono HB5.out.size))
    clear hb HT5 HB5
    by_cases h4 : 4 ≤ raw.size
    · by_cases ho : openB raw = true
      · have HE := Lib.hid ((opens_iff h4).1 ho)
        rw [opened ho, ho]
        clear ho
        go_wp2_with fail
        refine (refSeal_any _ _ (by simp [ByteArray.size_extract]; omega)).mono ?_
        rintro e w9 ⟨rfl, hb⟩
        rw [HE.out]
        have HB9 := Lib.hid (HB8.out.trans (hb.mono HB8.out.size))
        clear hb
        go_wp2_with fail
        go_ret
        exact ⟨rfl, HB9.out⟩
      · have HE : Hid ((⟨(sealB (raw.extract 4 raw.size)).toArray⟩ : ByteArray) ≠ raw) := Lib.hid fun h => ho ((opens_iff h4).2 h)
        rw [not_opened (Bool.eq_false_iff.2 ho), Bool.eq_false_iff.2 ho]
        clear ho
        go_wp2_with fail
        refine (refSeal_any _ _ (by simp [ByteArray.size_extract]; omega)).mono ?_
        rintro e w9 ⟨rfl, hb⟩
        obtain ⟨Z, hZ⟩ : ∃ Z : ByteArray, Z = ⟨(sealB (raw.extract 4 raw.size)).toArray⟩ := ⟨_, rfl⟩
        rw [← hZ]
        have hne : (Z.toList == raw.toList) = false := by
          rw [beq_eq_false_iff_ne]
          intro h
          apply HE.out
          rw [← hZ, ← ba_toList Z, h, ba_toList]
        have HB9 := Lib.hid (HB8.out.trans (hb.mono HB8.out.size))
        clear hb hZ
        go_wp2_with fail
        go_ret
        exact ⟨rfl, HB9.out⟩
    · have ho : openB raw = false := by unfold openB; rw [decide_eq_false_iff_not]; exact fun h => h4 h.1
      rw [not_opened ho, ho]
      clear ho
      go_wp2_with fail
      go_ret
      exact ⟨rfl, HB8.out⟩

theorem walk_CrcSeals (s : ByteArray) (at' by' : Int) (raw : ByteArray) (w : World) (hs : s.size ≤ maxLen) (_ : (Lit.int .i64 at').wf = true) (hb : (Lit.int .u8 by').wf = true) (hr : raw.size ≤ maxLen) :
    Calls Try.prog 5 #[.agg #[.string s, .int .i64 at', .int .u8 by'], .string raw] w fun e w' => e = .returned (.bool true) ∧ Below w.heap.size w w' := by
  rcases Nat.lt_or_ge 2000 s.size with h1 | h1
  · exact seals_long s raw at' by' w (.inl h1) hs hr
  rcases Nat.lt_or_ge 2000 raw.size with h2 | h2
  · exact seals_long s raw at' by' w (.inr ⟨h1, h2⟩) hs hr
  exact seals_short s raw at' by' w h1 h2 (by have := bounds_u8 hb; omega)
end Go.Proofs.Ytnghbgedbheodaa
