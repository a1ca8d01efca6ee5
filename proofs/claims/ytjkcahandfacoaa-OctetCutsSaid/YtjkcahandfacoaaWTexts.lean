/-
  OctetTexts, walked, where no text is too long: true for every such input; only new memory is written.
-/
import Derived.Test.YtjkcahandfacoaaTexts
import Derived.Deep.DeepCutAuto
namespace Go.Proofs.Ytjkcahandfacoaa
open Go.RowKit Go.Deep

set_option maxRecDepth 100000 in
theorem texts_many (u : Value) (ts : List ByteArray) (s : ByteArray) (c : Bool) (w : World) (hu : Strs w 0 u ts) (h : 60 < ts.length ∨ ts.length ≤ 60 ∧ 300 < s.size) :
    Calls Try.prog 4 #[u, .string s, .bool c] w fun e w' => e = .returned (.bool true) ∧ Below w.heap.size w w' := by
  obtain ⟨a, cap, rfl⟩ := hu.form
  clear hu
  rcases h with h | ⟨h, h2⟩
  all_goals
    go_enter Try.func4, Try.ntmps4
    go_wp2_with fail
    refine (awake_any _).mono ?_
    rintro e w1 ⟨rfl, hb⟩
    have HB := Lib.hid hb
    clear hb
    go_wp2_with fail
    go_ret
    exact ⟨rfl, HB.out⟩

theorem mem_getD {ts : List ByteArray} {k : Nat} (h : k < ts.length) : ts.getD k ⟨#[]⟩ ∈ ts := by
  simp [List.getD_eq_getElem?_getD, List.getElem?_eq_getElem h]
theorem all_snoc {ts : List ByteArray} {k n : Nat} (h : k < ts.length) (ha : ∀ t ∈ ts.take k, t.size ≤ n) (hx : (ts.getD k ⟨#[]⟩).size ≤ n) : ∀ t ∈ ts.take (k + 1), t.size ≤ n := by
  intro t hm
  rw [take_snoc' ts h, List.mem_append] at hm
  rcases hm with hm | hm
  · exact ha t hm
  · rw [List.mem_singleton] at hm
    rw [hm]; exact hx
theorem flat_drop (ts : List ByteArray) (k : Nat) (h : k < ts.length) (r : List UInt8) : (ts.drop k).flatMap txtB ++ r = txtB (ts.getD k ⟨#[]⟩) ++ ((ts.drop (k + 1)).flatMap txtB ++ r) := by
  rw [List.drop_eq_getElem_cons h, List.flatMap_cons, List.append_assoc, List.getD_eq_getElem?_getD, List.getElem?_eq_getElem h]
  rfl
theorem flat_small (ts : List ByteArray) (h : ∀ t ∈ ts, t.size ≤ 1000) : (ts.flatMap txtB).length ≤ 1002 * ts.length := by
  induction ts with
  | nil => simp
  | cons t ts ih =>
    rw [List.flatMap_cons, List.length_append, txtB_length, List.length_cons]
    have := ih fun x hx => h x (List.mem_cons_of_mem _ hx)
    have := h t List.mem_cons_self
    omega

set_option maxRecDepth 100000 in
set_option maxHeartbeats 2000000 in
theorem texts_short (u : Value) (ts : List ByteArray) (r : List UInt8) (w : World) (hu : Strs w 0 u ts) (hn : ts.length ≤ 60) (hr : r.length ≤ 300) :
    Calls Try.prog 4 #[u, .string ⟨r.toArray⟩, .bool false] w fun e w' => e = .returned (.bool true) ∧ Below w.heap.size w w' := by
  have HU := Lib.hid hu
  obtain ⟨a, cap, rfl⟩ := hu.form
  clear hu
  obtain ⟨rs, hrs⟩ : ∃ rs : ByteArray, rs = ⟨r.toArray⟩ := ⟨_, rfl⟩
  have hrz : rs.size = r.length := by rw [hrs, size_of]
  have hrz2 : rs.size ≤ 300 := by omega
  rw [← hrs]
  have HRS := Lib.hid hrs
  have HRZ := Lib.hid hrz
  clear hrs hrz
  go_enter Try.func4, Try.ntmps4
  go_wp2_with fail
  refine (awake_any _).mono ?_
  rintro e w1 ⟨rfl, hb⟩
  have HB := Lib.hid hb
  clear hb
  go_wp2_with fail
  go_loopw [7, 37] (fun s i wr => ∃ k : Nat, k ≤ ts.length ∧ i = .int .i64 k ∧ (∀ t ∈ ts.take k, t.size ≤ 1000) ∧ s = .string ⟨((ts.take k).flatMap txtB).toArray⟩ ∧ Below w.heap.size w wr) (fun _ i _ => ts.length - (intOf i).toNat)
  case atStart => exact ⟨0, Nat.zero_le _, rfl, by simp, rfl, HB.out⟩
  case round =>
    obtain ⟨k, hk, rfl, hall, rfl, hb⟩ := hrel
    have HALL := Lib.hid hall
    have HBR := Lib.hid hb
    clear hall hb
    obtain ⟨L, hL⟩ : ∃ L, L = (ts.take k).flatMap txtB := ⟨_, rfl⟩
    have hLl : L.length ≤ 100000 := by
      rw [hL]
      have := flat_small _ HALL.out
      have e : (ts.take k).length ≤ k := by rw [List.length_take]; omega
      omega
    rw [← hL]
    have HL := Lib.hid hL
    clear hL
    by_cases hlt : k < ts.length
    · obtain ⟨b, o, rfl, hck⟩ := (HU.out.below HBR.out (Nat.le_refl _)).cellAt hlt
      have hsn := flat_snoc ts k hlt
      obtain ⟨t, ht⟩ : ∃ t, t = ts.getD k ⟨#[]⟩ := ⟨_, rfl⟩
      rw [← ht] at hck hsn
      have HSN := Lib.hid hsn
      have HT := Lib.hid ht
      clear ht hsn
      by_cases hsz : t.size ≤ 1000
      · obtain ⟨X, hX⟩ : ∃ X, X = txtB t := ⟨_, rfl⟩
        have hXl : X.length ≤ 1002 := by rw [hX, txtB_length]; omega
        have HX := Lib.hid hX
        have HALL2 := Lib.hid (all_snoc hlt HALL.out (by rw [← HT.out]; exact hsz))
        clear hX
        go_wp2_with fail
        refine (refText_any t _ (by omega)).mono ?_
        rintro e w3 ⟨rfl, hb⟩
        rw [← HX.out]
        have HB3 := Lib.hid (HBR.out.trans (hb.mono HBR.out.size))
        clear hb
        go_wp2_with fail
        refine ⟨⟨k + 1, by omega, by go_num, HALL2.out, ?_, HB3.out⟩, by simp [intOf]; omega⟩
        rw [HSN.out, append_toArray, HL.out, HX.out]
      · go_wp2_with fail
        go_ret
        exact ⟨rfl, HBR.out⟩
    · obtain rfl : k = ts.length := by omega
      have hL := HL.out
      have hall := HALL.out
      rw [List.take_of_length_le (Nat.le_refl _)] at hL hall
      have HL2 := Lib.hid hL
      have HALL2 := Lib.hid hall
      have HS2 : Hid (∀ t ∈ ts, t.size ≤ 65535) := Lib.hid fun t ht => Nat.le_trans (hall t ht) (by decide)
      have HS3 : Hid (∀ t ∈ ts, t.size ≤ 100000) := Lib.hid fun t ht => Nat.le_trans (hall t ht) (by decide)
      have HS4 : Hid (∀ t ∈ ts, (t.size : Int) ≤ 1000 ∧ t.size ≤ 65535) := Lib.hid fun t ht => ⟨by have := hall t ht; omega, HS2.out t ht⟩
      clear hL hall HL HALL
      obtain ⟨M, hM⟩ : ∃ M, M = listB ts := ⟨_, rfl⟩
      have hMl : M.length ≤ 100001 := by rw [hM, listB, List.length_append, numB_length, ← HL2.out]; omega
      have HM := Lib.hid hM
      clear hM
      go_wp2_with fail
      refine (textW_ok _ ts _ (by omega) HS2.out (HU.out.below HBR.out (Nat.le_refl _))).mono ?_
      rintro e w3 ⟨rfl, hb⟩
      rw [← HL2.out]
      have HB3 := Lib.hid (HBR.out.trans (hb.mono HBR.out.size))
      clear hb
      go_wp2_with fail
      refine (listW_ok _ ts _ (by omega) HS2.out (HU.out.below HB3.out (Nat.le_refl _))).mono ?_
      rintro e w4 ⟨rfl, hb⟩
      rw [← HM.out]
      have HB4 := Lib.hid (HB3.out.trans (hb.mono HB3.out.size))
      clear hb HB3
      go_wp2_with fail
      refine (refList_any _ ts _ (HU.out.below HB4.out (Nat.le_refl _)) (by omega) HS3.out).mono ?_
      rintro e w5 ⟨rfl, hb⟩
      rw [← HM.out]
      have HB5 := Lib.hid (HB4.out.trans (hb.mono HB4.out.size))
      clear hb HB4
      go_wp2_with fail
      refine (new_post _ _).mono ?_
      rintro e w6 ⟨ba, rfl, hba, hra, hg⟩
      have HBA := Lib.hid (Nat.le_trans HB5.out.size hba)
      have HB6 := Lib.hid (below_grown HB5.out hg (Nat.le_refl _))
      rw [HRS.out, append_toArray] at hra
      have HRA := Lib.hid hra
      clear hba hra hg HB5
      go_wp2_with fail
      refine (new_post _ _).mono ?_
      rintro e w7 ⟨bb, rfl, hbb, hrb, hg⟩
      have HBB := Lib.hid (Nat.le_trans HB6.out.size hbb)
      have HAB := Lib.hid (Nat.ne_of_lt (Nat.lt_of_lt_of_le HRA.out.lt hbb))
      have HB7 := Lib.hid (below_grown HB6.out hg (Nat.le_refl _))
      have HRA7 := Lib.hid (HRA.out.same hg)
      rw [HRS.out, append_toArray] at hrb
      have HRB7 := Lib.hid hrb
      clear hbb hrb hg HB6 HRA
      go_wp2_with fail
      go_loopw [127] (fun i wr => ∃ k : Nat, k ≤ ts.length ∧ i = .int .i64 k ∧ Rd wr ba ⟨((ts.drop k).flatMap txtB ++ r).toArray⟩ 0 ∧ Rd wr bb ⟨(M ++ r).toArray⟩ 0 ∧ Below w.heap.size w wr) (fun i _ => ts.length - (intOf i).toNat)
      case atStart => exact ⟨0, Nat.zero_le _, rfl, by rw [List.drop_zero, ← HL2.out]; exact HRA7.out, HRB7.out, HB7.out⟩
      case round =>
        obtain ⟨k, hk, rfl, hra, hrb, hb⟩ := hrel
        have HRA := Lib.hid hra
        have HRB := Lib.hid hrb
        have HB8 := Lib.hid hb
        clear hra hrb hb
        by_cases hlt : k < ts.length
        · obtain ⟨b, o, rfl, hck⟩ := (HU.out.below HB8.out (Nat.le_refl _)).cellAt hlt
          have hc := textS_read (ts.getD k ⟨#[]⟩) ((ts.drop (k + 1)).flatMap txtB ++ r) 1000 (HS4.out _ (mem_getD hlt)).1 (HS4.out _ (mem_getD hlt)).2
          rw [← flat_drop ts k hlt r] at hc
          obtain ⟨t, ht⟩ : ∃ t, t = ts.getD k ⟨#[]⟩ := ⟨_, rfl⟩
          rw [← ht] at hck hc
          have HC := Lib.hid hc
          clear hc ht
          go_wp2_with fail
          refine (text_any _ _ _ _ HRA.out HC.out).mono ?_
          rintro e w9 ⟨rfl, hr, hg⟩
          have HR9 := Lib.hid hr
          have HRB9 := Lib.hid (HRB.out.kept hg (Ne.symm HAB.out))
          have HB9 := Lib.hid (below_grown' HB8.out hg (Nat.le_refl _) HBA.out)
          clear hr hg
          go_wp2_with fail
          exact ⟨⟨k + 1, by omega, by go_num, HR9.out, HRB9.out, HB9.out⟩, by simp [intOf]; omega⟩
        · obtain rfl : k = ts.length := by omega
          have hr := HRA.out
          rw [List.drop_of_length_le (Nat.le_refl _)] at hr
          have HRA8 : Hid (Rd wr ba ⟨r.toArray⟩ 0) := Lib.hid hr
          have hc := listS_read ts r 60 1000 (by omega) (by omega) HS4.out
          rw [← HM.out] at hc
          have HC := Lib.hid hc
          have hc2 := cutS_read r []
          rw [List.append_nil, ← HRZ.out, ← HRS.out] at hc2
          have HC2 := Lib.hid hc2
          rw [← HRS.out] at HRA8
          have HTS : Hid (ts.length ≤ 1000000) := Lib.hid (by omega)
          clear hr hc hc2 HRA
          go_wp2_with fail
          refine (list_any _ _ _ _ _ HRB.out HC.out).mono ?_
          rintro e w9 ⟨v, rfl, hv, hr, hg⟩
          have HV9 := Lib.hid hv.zero
          rw [goS_ok, ← HRS.out] at hr
          have HRB9 := Lib.hid hr
          have HRA9 := Lib.hid (HRA8.out.kept hg HAB.out)
          have HB9 := Lib.hid (below_grown' HB8.out hg (Nat.le_refl _) HBB.out)
          clear hv hr hg HRA8 HRB
          go_wp2_with fail
          refine (same_any _ _ ts ts _ HV9.out (HU.out.below HB9.out (Nat.le_refl _)) HTS.out).mono ?_
          rintro e w10 ⟨rfl, d, rfl⟩
          rw [decide_eq_true (show ts = ts from rfl)]
          have HRA10 := Lib.hid (HRA9.out.drewN d)
          have HRB10 := Lib.hid (HRB9.out.drewN d)
          have HB10 := Lib.hid (below_grown' HB9.out (grownBy_drewN _ d (some ba)) (Nat.le_refl _) HBA.out)
          clear HV9 HRA9 HRB9 HB9
          go_wp2_with fail
          refine (left_any _ _ _ _ HRA10.out).mono ?_
          rintro e w11 ⟨rfl, rfl⟩
          go_wp2_with fail
          refine (left_any _ _ _ _ HRB10.out).mono ?_
          rintro e w11 ⟨rfl, rfl⟩
          go_wp2_with fail
          refine (err_any _ _ _ _ HRA10.out).mono ?_
          rintro e w11 ⟨rfl, rfl⟩
          go_wp2_with fail
          refine (err_any _ _ _ _ HRB10.out).mono ?_
          rintro e w11 ⟨rfl, rfl⟩
          go_wp2_with fail
          refine (take_any _ _ _ _ HRA10.out HC2.out).mono ?_
          rintro e w11 ⟨rfl, hr, hg⟩
          rw [goS_ok] at hr
          have HRA11 : Hid (Rd w11 ba ⟨#[]⟩ 0) := Lib.hid hr
          have HB11 := Lib.hid (below_grown' HB10.out hg (Nat.le_refl _) HBA.out)
          clear hr hg
          go_wp2_with fail
          refine (end_any _ _ _ _ HRA11.out).mono ?_
          rintro e w12 ⟨rfl, rfl⟩
          rw [show endE ⟨#[]⟩ 0 = 0 from rfl]
          go_wp2_with fail
          go_ret
          exact ⟨rfl, HB11.out⟩
end Go.Proofs.Ytjkcahandfacoaa
