/-
  OctetReads, walked: true for every input; only new memory is written.
-/
import Derived.Test.YtjkcahandfacoaaReads
namespace Go.Proofs.Ytjkcahandfacoaa
open Go.RowKit Go.Deep

def NewPost (w : World) (s : ByteArray) (e : Ending) (w' : World) : Prop := ∃ b, e = .returned (.pointer (some ⟨b, 0, none⟩)) ∧ w.heap.size ≤ b ∧ Rd w' b s 0 ∧ w.grownBy w' none
theorem new_post (s : ByteArray) (w : World) : Calls Try.prog 13 #[.string s] w (NewPost w s) := by
  refine (new_any s w).mono ?_
  rintro e w' ⟨rfl, rfl⟩
  exact ⟨w.heap.size, rfl, Nat.le_refl _, Rd.new _ _, World.grownBy_alloc w _ none⟩
theorem Rd.below {w w' : World} {b B : Nat} {s : ByteArray} {e : Int} (h : Rd w b s e) (hb : Below B w w') (hB : b < B) : Rd w' b s e := by
  unfold Rd; rw [hb.block b hB]; exact h
theorem below_grown {B : Nat} {w w1 w2 : World} (h : Below B w w1) (hg : w1.grownBy w2 none) (hB : B ≤ w.heap.size) : Below B w w2 :=
  h.grown hg (Nat.le_trans hB h.size) (fun k e => by cases e)
theorem below_grown' {B b : Nat} {w w1 w2 : World} (h : Below B w w1) (hg : w1.grownBy w2 (some b)) (hB : B ≤ w.heap.size) (hb : B ≤ b) : Below B w w2 :=
  h.grown hg (Nat.le_trans hB h.size) (fun k e => by cases e; exact hb)

theorem textS_le {s t r : ByteArray} {most x : Int} (h : textS s most = (t, r, x)) : r.size ≤ s.size := by
  rw [textS_eq] at h
  generalize getN (s.data.toList.take 2) = v at h
  split at h
  · simp only [Prod.mk.injEq] at h; rw [← h.2.1]; exact Nat.zero_le _
  · split at h
    · simp only [Prod.mk.injEq] at h; rw [← h.2.1]; exact Nat.zero_le _
    · split at h
      · simp only [Prod.mk.injEq] at h; rw [← h.2.1]; exact Nat.zero_le _
      · simp only [Prod.mk.injEq] at h; rw [← h.2.1, size_rest]; omega
theorem textsS_le (most : Int) : ∀ (n : Nat) {s r : ByteArray} {acc ts : List ByteArray} {x : Int}, textsS most n s acc = (ts, r, x) → r.size ≤ s.size := by
  intro n
  induction n with
  | zero => intro s r acc ts x h; simp only [textsS, Prod.mk.injEq] at h; rw [h.2.1]; exact Nat.le_refl _
  | succ n ih =>
    intro s r acc ts x h
    rw [textsS] at h
    split at h
    · exact Nat.le_trans (ih h) (textS_le (t := (textS s most).1) (x := (textS s most).2.2) rfl)
    · simp only [Prod.mk.injEq] at h; rw [← h.2.1]; exact Nat.zero_le _
theorem listS_le {s r : ByteArray} {ts : List ByteArray} {many most x : Int} (h : listS s many most = (ts, r, x)) : r.size ≤ s.size := by
  have hn : numS s 1 = _ := numS_eq s 1 (by omega) (by omega)
  rw [listS, hn] at h
  by_cases h1 : s.size < 1
  · rw [if_pos h1] at h
    simp only [show ¬ ((3 : Int) = 0) by decide, if_false, Prod.mk.injEq] at h
    rw [← h.2.1]; exact Nat.zero_le _
  · rw [if_neg h1] at h
    simp only [if_true] at h
    split at h
    · simp only [Prod.mk.injEq] at h; rw [← h.2.1]; exact Nat.zero_le _
    · exact Nat.le_trans (textsS_le _ _ h) (by rw [size_rest]; omega)
theorem Strs.zero {w : World} {B : Nat} {v : Value} {ts : List ByteArray} (h : Strs w B v ts) : Strs w 0 v ts := by
  obtain ⟨a, cap, rfl, h⟩ := h
  refine ⟨a, cap, rfl, ?_⟩
  rcases h with h | ⟨b, o, rfl, _, h⟩
  · exact .inl h
  · exact .inr ⟨b, o, rfl, Nat.zero_le _, h⟩
theorem readK_le (s r : ByteArray) (x : Int) : readK s r x ≤ s.size := by
  unfold readK; split <;> omega
theorem left_eq {s r : ByteArray} {x : Int} (h : r.size ≤ s.size) : ((goS s r x).size : Int) = (s.size : Int) - (readK s r x : Nat) := by
  unfold goS readK
  split <;> omega

set_option maxRecDepth 100000 in
set_option maxHeartbeats 1000000 in
theorem reads_short_empty (s : ByteArray) (many most : Int) (w : World) {t r : ByteArray} {x : Int} {ts : List ByteArray} {q : ByteArray} (hs : s.size ≤ 300) (hx : textS s most = (t, r, x)) (hz : listS s many most = (ts, q, 0)) (hts : ts.length ≤ 1000000) (h3 : s.size < 3) (h0 : q.size = 0) :
    Calls Try.prog 5 #[.string s, .int .i64 many, .int .i64 most] w fun e w' => e = .returned (.bool true) ∧ Below w.heap.size w w' := by
  have HLX := Lib.hid (left_eq (x := x) (textS_le hx))
  have HLZ := Lib.hid (left_eq (x := 0) (listS_le hz))
  have hkx := readK_le s r x
  have hkz := readK_le s q 0
  have hq := listS_le hz
  have HX := Lib.hid hx
  have HZ := Lib.hid hz
  have HTS := Lib.hid hts
  clear hx hz hts
  have hn : numS s 3 = _ := numS_eq s 3 (by omega) (by omega)
  rw [if_pos h3] at hn
  have HN := Lib.hid hn
  clear hn
  have hk : (((readK s q 0 : Nat) : Int) == (s.size : Int)) = true := by rw [readK, if_pos rfl]; simp; omega
  have HE : Hid (endE (goS s q 0) 0 = 0) := Lib.hid (by rw [endE, if_pos rfl, goS_ok, if_neg (by omega)])
  clear hq h0
  go_enter Try.func5, Try.ntmps5
  go_wp2_with fail
  refine (awake_any _).mono ?_
  rintro e w1 ⟨rfl, hb⟩
  have HB := Lib.hid hb
  clear hb
  go_wp2_with fail
  refine (new_post _ _).mono ?_
  rintro e w2 ⟨ba, rfl, hba, hra, hg⟩
  have HBA := Lib.hid (Nat.le_trans HB.out.size hba)
  have HB2 := Lib.hid (below_grown HB.out hg (Nat.le_refl _))
  have HRA := Lib.hid hra
  clear hba hra hg HB
  go_wp2_with fail
  refine (new_post _ _).mono ?_
  rintro e w3 ⟨bb, rfl, hbb, hrb, hg⟩
  have HBB := Lib.hid (Nat.le_trans HB2.out.size hbb)
  have HAB := Lib.hid (Nat.ne_of_lt (Nat.lt_of_lt_of_le HRA.out.lt hbb))
  have HB3 := Lib.hid (below_grown HB2.out hg (Nat.le_refl _))
  have HRA3 := Lib.hid (HRA.out.same hg)
  have HRB := Lib.hid hrb
  clear hbb hrb hg HB2 HRA
  go_wp2_with fail
  refine (new_post _ _).mono ?_
  rintro e w4 ⟨bc, rfl, hbc, hrc, hg⟩
  have HBC := Lib.hid (Nat.le_trans HB3.out.size hbc)
  have HAC := Lib.hid (Nat.ne_of_lt (Nat.lt_of_lt_of_le HRA3.out.lt hbc))
  have HBCC := Lib.hid (Nat.ne_of_lt (Nat.lt_of_lt_of_le HRB.out.lt hbc))
  have HB4 := Lib.hid (below_grown HB3.out hg (Nat.le_refl _))
  have HRA4 := Lib.hid (HRA3.out.same hg)
  have HRB4 := Lib.hid (HRB.out.same hg)
  have HRC := Lib.hid hrc
  clear hbc hrc hg HB3 HRA3 HRB
  go_wp2_with fail
  refine (get_short s 3 _ h3).mono ?_
  rintro e w5 ⟨rfl, rfl⟩
  go_wp2_with fail
  refine (num_any _ _ _ _ HRA4.out HN.out).mono ?_
  rintro e w5 ⟨rfl, hr, hg⟩
  have HRA5 : Hid (Rd w5 ba s 3) := Lib.hid hr
  have HRB5 := Lib.hid (HRB4.out.kept hg (Ne.symm HAB.out))
  have HRC5 := Lib.hid (HRC.out.kept hg (Ne.symm HAC.out))
  have HB5 := Lib.hid (below_grown' HB4.out hg (Nat.le_refl _) HBA.out)
  clear hr hg HRA4 HRB4 HRC HB4
  go_wp2_with fail
  refine (err_any _ _ _ _ HRA5.out).mono ?_
  rintro e w6 ⟨rfl, rfl⟩
  go_wp2_with fail
  refine (left_any _ _ _ _ HRA5.out).mono ?_
  rintro e w6 ⟨rfl, rfl⟩
  go_wp2_with fail
  refine (refRead_any _ _ _ (by omega) HX.out).mono ?_
  rintro e w6 ⟨rfl, rfl⟩
  go_wp2_with fail
  refine (text_any _ _ _ _ HRB5.out HX.out).mono ?_
  rintro e w6 ⟨rfl, hr, hg⟩
  have HRB6 := Lib.hid hr
  have HRC6 := Lib.hid (HRC5.out.kept hg (Ne.symm HBCC.out))
  have HB6 := Lib.hid (below_grown' HB5.out hg (Nat.le_refl _) HBB.out)
  clear hr hg HRB5 HRC5 HB5
  go_wp2_with fail
  refine (err_any _ _ _ _ HRB6.out).mono ?_
  rintro e w7 ⟨rfl, rfl⟩
  go_wp2_with fail
  refine (left_any _ _ _ _ HRB6.out).mono ?_
  rintro e w7 ⟨rfl, rfl⟩
  rw [HLX.out]
  go_wp2_with fail
  refine (refReads_any _ _ _ _ (by omega) HZ.out).mono ?_
  rintro e w7 ⟨v, rfl, hv, hb⟩
  have HRC7 := Lib.hid (HRC6.out.below hb HRC6.out.lt)
  have HB7 := Lib.hid (HB6.out.trans (hb.mono HB6.out.size))
  have HCL := Lib.hid HRC6.out.lt
  have HV7 := Lib.hid hv
  clear hb hv HRC6 HB6 HRB6
  go_wp2_with fail
  refine (list_any _ _ _ _ _ HRC7.out HZ.out).mono ?_
  rintro e w8 ⟨u, rfl, hu, hr, hg⟩
  have HV8 := Lib.hid (HV7.out.kept hg (fun k e => by cases e; exact HCL.out)).zero
  have HU8 := Lib.hid hu.zero
  have HRC8 := Lib.hid hr
  have HB8 := Lib.hid (below_grown' HB7.out hg (Nat.le_refl _) HBC.out)
  clear hu hr hg HV7 HRC7 HB7
  go_wp2_with fail
  refine (same_any _ _ ts ts _ HU8.out HV8.out HTS.out).mono ?_
  rintro e w9 ⟨rfl, k, rfl⟩
  rw [decide_eq_true (show ts = ts from rfl)]
  have HRC9 := Lib.hid (HRC8.out.drewN k)
  have HB9 := Lib.hid (below_grown' HB8.out (grownBy_drewN _ k (some bc)) (Nat.le_refl _) HBC.out)
  clear HU8 HV8 HRC8 HB8
  go_wp2_with fail
  refine (err_any _ _ _ _ HRC9.out).mono ?_
  rintro e w10 ⟨rfl, rfl⟩
  go_wp2_with fail
  refine (left_any _ _ _ _ HRC9.out).mono ?_
  rintro e w10 ⟨rfl, rfl⟩
  rw [HLZ.out]
  go_wp2_with fail
  refine (end_any _ _ _ _ HRC9.out).mono ?_
  rintro e w10 ⟨rfl, rfl⟩
  rw [HE.out]
  go_wp2_with fail
  go_ret
  exact ⟨rfl, HB9.out⟩

set_option maxRecDepth 100000 in
set_option maxHeartbeats 1000000 in
theorem reads_short_more (s : ByteArray) (many most : Int) (w : World) {t r : ByteArray} {x : Int} {ts : List ByteArray} {q : ByteArray} (hs : s.size ≤ 300) (hx : textS s most = (t, r, x)) (hz : listS s many most = (ts, q, 0)) (hts : ts.length ≤ 1000000) (h3 : s.size < 3) (h0 : 0 < q.size) :
    Calls Try.prog 5 #[.string s, .int .i64 many, .int .i64 most] w fun e w' => e = .returned (.bool true) ∧ Below w.heap.size w w' := by
  have HLX := Lib.hid (left_eq (x := x) (textS_le hx))
  have HLZ := Lib.hid (left_eq (x := 0) (listS_le hz))
  have hkx := readK_le s r x
  have hkz := readK_le s q 0
  have hq := listS_le hz
  have HX := Lib.hid hx
  have HZ := Lib.hid hz
  have HTS := Lib.hid hts
  clear hx hz hts
  have hn : numS s 3 = _ := numS_eq s 3 (by omega) (by omega)
  rw [if_pos h3] at hn
  have HN := Lib.hid hn
  clear hn
  have hk : (((readK s q 0 : Nat) : Int) == (s.size : Int)) = false := by rw [readK, if_pos rfl]; simp; omega
  have HE : Hid (endE (goS s q 0) 0 = 4) := Lib.hid (by rw [endE, if_pos rfl, goS_ok, if_pos h0])
  clear hq h0
  go_enter Try.func5, Try.ntmps5
  go_wp2_with fail
  refine (awake_any _).mono ?_
  rintro e w1 ⟨rfl, hb⟩
  have HB := Lib.hid hb
  clear hb
  go_wp2_with fail
  refine (new_post _ _).mono ?_
  rintro e w2 ⟨ba, rfl, hba, hra, hg⟩
  have HBA := Lib.hid (Nat.le_trans HB.out.size hba)
  have HB2 := Lib.hid (below_grown HB.out hg (Nat.le_refl _))
  have HRA := Lib.hid hra
  clear hba hra hg HB
  go_wp2_with fail
  refine (new_post _ _).mono ?_
  rintro e w3 ⟨bb, rfl, hbb, hrb, hg⟩
  have HBB := Lib.hid (Nat.le_trans HB2.out.size hbb)
  have HAB := Lib.hid (Nat.ne_of_lt (Nat.lt_of_lt_of_le HRA.out.lt hbb))
  have HB3 := Lib.hid (below_grown HB2.out hg (Nat.le_refl _))
  have HRA3 := Lib.hid (HRA.out.same hg)
  have HRB := Lib.hid hrb
  clear hbb hrb hg HB2 HRA
  go_wp2_with fail
  refine (new_post _ _).mono ?_
  rintro e w4 ⟨bc, rfl, hbc, hrc, hg⟩
  have HBC := Lib.hid (Nat.le_trans HB3.out.size hbc)
  have HAC := Lib.hid (Nat.ne_of_lt (Nat.lt_of_lt_of_le HRA3.out.lt hbc))
  have HBCC := Lib.hid (Nat.ne_of_lt (Nat.lt_of_lt_of_le HRB.out.lt hbc))
  have HB4 := Lib.hid (below_grown HB3.out hg (Nat.le_refl _))
  have HRA4 := Lib.hid (HRA3.out.same hg)
  have HRB4 := Lib.hid (HRB.out.same hg)
  have HRC := Lib.hid hrc
  clear hbc hrc hg HB3 HRA3 HRB
  go_wp2_with fail
  refine (get_short s 3 _ h3).mono ?_
  rintro e w5 ⟨rfl, rfl⟩
  go_wp2_with fail
  refine (num_any _ _ _ _ HRA4.out HN.out).mono ?_
  rintro e w5 ⟨rfl, hr, hg⟩
  have HRA5 : Hid (Rd w5 ba s 3) := Lib.hid hr
  have HRB5 := Lib.hid (HRB4.out.kept hg (Ne.symm HAB.out))
  have HRC5 := Lib.hid (HRC.out.kept hg (Ne.symm HAC.out))
  have HB5 := Lib.hid (below_grown' HB4.out hg (Nat.le_refl _) HBA.out)
  clear hr hg HRA4 HRB4 HRC HB4
  go_wp2_with fail
  refine (err_any _ _ _ _ HRA5.out).mono ?_
  rintro e w6 ⟨rfl, rfl⟩
  go_wp2_with fail
  refine (left_any _ _ _ _ HRA5.out).mono ?_
  rintro e w6 ⟨rfl, rfl⟩
  go_wp2_with fail
  refine (refRead_any _ _ _ (by omega) HX.out).mono ?_
  rintro e w6 ⟨rfl, rfl⟩
  go_wp2_with fail
  refine (text_any _ _ _ _ HRB5.out HX.out).mono ?_
  rintro e w6 ⟨rfl, hr, hg⟩
  have HRB6 := Lib.hid hr
  have HRC6 := Lib.hid (HRC5.out.kept hg (Ne.symm HBCC.out))
  have HB6 := Lib.hid (below_grown' HB5.out hg (Nat.le_refl _) HBB.out)
  clear hr hg HRB5 HRC5 HB5
  go_wp2_with fail
  refine (err_any _ _ _ _ HRB6.out).mono ?_
  rintro e w7 ⟨rfl, rfl⟩
  go_wp2_with fail
  refine (left_any _ _ _ _ HRB6.out).mono ?_
  rintro e w7 ⟨rfl, rfl⟩
  rw [HLX.out]
  go_wp2_with fail
  refine (refReads_any _ _ _ _ (by omega) HZ.out).mono ?_
  rintro e w7 ⟨v, rfl, hv, hb⟩
  have HRC7 := Lib.hid (HRC6.out.below hb HRC6.out.lt)
  have HB7 := Lib.hid (HB6.out.trans (hb.mono HB6.out.size))
  have HCL := Lib.hid HRC6.out.lt
  have HV7 := Lib.hid hv
  clear hb hv HRC6 HB6 HRB6
  go_wp2_with fail
  refine (list_any _ _ _ _ _ HRC7.out HZ.out).mono ?_
  rintro e w8 ⟨u, rfl, hu, hr, hg⟩
  have HV8 := Lib.hid (HV7.out.kept hg (fun k e => by cases e; exact HCL.out)).zero
  have HU8 := Lib.hid hu.zero
  have HRC8 := Lib.hid hr
  have HB8 := Lib.hid (below_grown' HB7.out hg (Nat.le_refl _) HBC.out)
  clear hu hr hg HV7 HRC7 HB7
  go_wp2_with fail
  refine (same_any _ _ ts ts _ HU8.out HV8.out HTS.out).mono ?_
  rintro e w9 ⟨rfl, k, rfl⟩
  rw [decide_eq_true (show ts = ts from rfl)]
  have HRC9 := Lib.hid (HRC8.out.drewN k)
  have HB9 := Lib.hid (below_grown' HB8.out (grownBy_drewN _ k (some bc)) (Nat.le_refl _) HBC.out)
  clear HU8 HV8 HRC8 HB8
  go_wp2_with fail
  refine (err_any _ _ _ _ HRC9.out).mono ?_
  rintro e w10 ⟨rfl, rfl⟩
  go_wp2_with fail
  refine (left_any _ _ _ _ HRC9.out).mono ?_
  rintro e w10 ⟨rfl, rfl⟩
  rw [HLZ.out]
  go_wp2_with fail
  refine (end_any _ _ _ _ HRC9.out).mono ?_
  rintro e w10 ⟨rfl, rfl⟩
  rw [HE.out]
  go_wp2_with fail
  go_ret
  exact ⟨rfl, HB9.out⟩

set_option maxRecDepth 100000 in
set_option maxHeartbeats 1000000 in
theorem reads_short_err (s : ByteArray) (many most : Int) (w : World) {t r : ByteArray} {x : Int} {ts : List ByteArray} {q : ByteArray} {z : Int} (hs : s.size ≤ 300) (hx : textS s most = (t, r, x)) (hz : listS s many most = (ts, q, z)) (hts : ts.length ≤ 1000000) (h3 : s.size < 3) (h0 : ¬ z = 0) :
    Calls Try.prog 5 #[.string s, .int .i64 many, .int .i64 most] w fun e w' => e = .returned (.bool true) ∧ Below w.heap.size w w' := by
  have HLX := Lib.hid (left_eq (x := x) (textS_le hx))
  have HLZ := Lib.hid (left_eq (x := z) (listS_le hz))
  have hkx := readK_le s r x
  have hkz := readK_le s q z
  have hq := listS_le hz
  have HX := Lib.hid hx
  have HZ := Lib.hid hz
  have HTS := Lib.hid hts
  clear hx hz hts
  have hn : numS s 3 = _ := numS_eq s 3 (by omega) (by omega)
  rw [if_pos h3] at hn
  have HN := Lib.hid hn
  clear hn
  have hk : (z == 0) = false := by simpa using h0
  have HE : Hid (endE (goS s q z) z = z) := Lib.hid (by rw [endE, if_neg h0])
  have HGS : Hid ((goS s q z).size = s.size) := Lib.hid (by rw [goS_err _ _ h0])
  have HZ0 := Lib.hid h0
  clear hq h0
  go_enter Try.func5, Try.ntmps5
  go_wp2_with fail
  refine (awake_any _).mono ?_
  rintro e w1 ⟨rfl, hb⟩
  have HB := Lib.hid hb
  clear hb
  go_wp2_with fail
  refine (new_post _ _).mono ?_
  rintro e w2 ⟨ba, rfl, hba, hra, hg⟩
  have HBA := Lib.hid (Nat.le_trans HB.out.size hba)
  have HB2 := Lib.hid (below_grown HB.out hg (Nat.le_refl _))
  have HRA := Lib.hid hra
  clear hba hra hg HB
  go_wp2_with fail
  refine (new_post _ _).mono ?_
  rintro e w3 ⟨bb, rfl, hbb, hrb, hg⟩
  have HBB := Lib.hid (Nat.le_trans HB2.out.size hbb)
  have HAB := Lib.hid (Nat.ne_of_lt (Nat.lt_of_lt_of_le HRA.out.lt hbb))
  have HB3 := Lib.hid (below_grown HB2.out hg (Nat.le_refl _))
  have HRA3 := Lib.hid (HRA.out.same hg)
  have HRB := Lib.hid hrb
  clear hbb hrb hg HB2 HRA
  go_wp2_with fail
  refine (new_post _ _).mono ?_
  rintro e w4 ⟨bc, rfl, hbc, hrc, hg⟩
  have HBC := Lib.hid (Nat.le_trans HB3.out.size hbc)
  have HAC := Lib.hid (Nat.ne_of_lt (Nat.lt_of_lt_of_le HRA3.out.lt hbc))
  have HBCC := Lib.hid (Nat.ne_of_lt (Nat.lt_of_lt_of_le HRB.out.lt hbc))
  have HB4 := Lib.hid (below_grown HB3.out hg (Nat.le_refl _))
  have HRA4 := Lib.hid (HRA3.out.same hg)
  have HRB4 := Lib.hid (HRB.out.same hg)
  have HRC := Lib.hid hrc
  clear hbc hrc hg HB3 HRA3 HRB
  go_wp2_with fail
  refine (get_short s 3 _ h3).mono ?_
  rintro e w5 ⟨rfl, rfl⟩
  go_wp2_with fail
  refine (num_any _ _ _ _ HRA4.out HN.out).mono ?_
  rintro e w5 ⟨rfl, hr, hg⟩
  have HRA5 : Hid (Rd w5 ba s 3) := Lib.hid hr
  have HRB5 := Lib.hid (HRB4.out.kept hg (Ne.symm HAB.out))
  have HRC5 := Lib.hid (HRC.out.kept hg (Ne.symm HAC.out))
  have HB5 := Lib.hid (below_grown' HB4.out hg (Nat.le_refl _) HBA.out)
  clear hr hg HRA4 HRB4 HRC HB4
  go_wp2_with fail
  refine (err_any _ _ _ _ HRA5.out).mono ?_
  rintro e w6 ⟨rfl, rfl⟩
  go_wp2_with fail
  refine (left_any _ _ _ _ HRA5.out).mono ?_
  rintro e w6 ⟨rfl, rfl⟩
  go_wp2_with fail
  refine (refRead_any _ _ _ (by omega) HX.out).mono ?_
  rintro e w6 ⟨rfl, rfl⟩
  go_wp2_with fail
  refine (text_any _ _ _ _ HRB5.out HX.out).mono ?_
  rintro e w6 ⟨rfl, hr, hg⟩
  have HRB6 := Lib.hid hr
  have HRC6 := Lib.hid (HRC5.out.kept hg (Ne.symm HBCC.out))
  have HB6 := Lib.hid (below_grown' HB5.out hg (Nat.le_refl _) HBB.out)
  clear hr hg HRB5 HRC5 HB5
  go_wp2_with fail
  refine (err_any _ _ _ _ HRB6.out).mono ?_
  rintro e w7 ⟨rfl, rfl⟩
  go_wp2_with fail
  refine (left_any _ _ _ _ HRB6.out).mono ?_
  rintro e w7 ⟨rfl, rfl⟩
  rw [HLX.out]
  go_wp2_with fail
  refine (refReads_any _ _ _ _ (by omega) HZ.out).mono ?_
  rintro e w7 ⟨v, rfl, hv, hb⟩
  have HRC7 := Lib.hid (HRC6.out.below hb HRC6.out.lt)
  have HB7 := Lib.hid (HB6.out.trans (hb.mono HB6.out.size))
  have HCL := Lib.hid HRC6.out.lt
  have HV7 := Lib.hid hv
  clear hb hv HRC6 HB6 HRB6
  go_wp2_with fail
  refine (list_any _ _ _ _ _ HRC7.out HZ.out).mono ?_
  rintro e w8 ⟨u, rfl, hu, hr, hg⟩
  have HV8 := Lib.hid (HV7.out.kept hg (fun k e => by cases e; exact HCL.out)).zero
  have HU8 := Lib.hid hu.zero
  have HRC8 := Lib.hid hr
  have HB8 := Lib.hid (below_grown' HB7.out hg (Nat.le_refl _) HBC.out)
  clear hu hr hg HV7 HRC7 HB7
  go_wp2_with fail
  refine (same_any _ _ ts ts _ HU8.out HV8.out HTS.out).mono ?_
  rintro e w9 ⟨rfl, k, rfl⟩
  rw [decide_eq_true (show ts = ts from rfl)]
  have HRC9 := Lib.hid (HRC8.out.drewN k)
  have HB9 := Lib.hid (below_grown' HB8.out (grownBy_drewN _ k (some bc)) (Nat.le_refl _) HBC.out)
  clear HU8 HV8 HRC8 HB8
  go_wp2_with fail
  refine (err_any _ _ _ _ HRC9.out).mono ?_
  rintro e w10 ⟨rfl, rfl⟩
  go_wp2_with fail
  refine (left_any _ _ _ _ HRC9.out).mono ?_
  rintro e w10 ⟨rfl, rfl⟩
  rw [HLZ.out]
  go_wp2_with fail
  refine (num_none _ _ _ _ _ HRC9.out HZ0.out).mono ?_
  rintro e w10 ⟨rfl, rfl⟩
  go_wp2_with fail
  refine (text_none _ _ _ _ _ HRC9.out HZ0.out).mono ?_
  rintro e w10 ⟨rfl, rfl⟩
  go_wp2_with fail
  refine (list_none _ _ _ _ _ _ HRC9.out HZ0.out).mono ?_
  rintro e w10 ⟨rfl, rfl⟩
  go_wp2_with fail
  refine (take_none _ _ _ _ _ HRC9.out HZ0.out).mono ?_
  rintro e w10 ⟨rfl, rfl⟩
  go_wp2_with fail
  refine (err_any _ _ _ _ HRC9.out).mono ?_
  rintro e w10 ⟨rfl, rfl⟩
  go_wp2_with fail
  refine (end_any _ _ _ _ HRC9.out).mono ?_
  rintro e w10 ⟨rfl, rfl⟩
  rw [HE.out]
  go_wp2_with fail
  refine (left_any _ _ _ _ HRC9.out).mono ?_
  rintro e w10 ⟨rfl, rfl⟩
  rw [HGS.out]
  go_wp2_with fail
  go_ret
  exact ⟨rfl, HB9.out⟩

set_option maxRecDepth 100000 in
set_option maxHeartbeats 1000000 in
theorem reads_long_empty (s : ByteArray) (many most : Int) (w : World) {t r : ByteArray} {x : Int} {ts : List ByteArray} {q : ByteArray} (hs : s.size ≤ 300) (hx : textS s most = (t, r, x)) (hz : listS s many most = (ts, q, 0)) (hts : ts.length ≤ 1000000) (h3 : ¬ s.size < 3) (h0 : q.size = 0) :
    Calls Try.prog 5 #[.string s, .int .i64 many, .int .i64 most] w fun e w' => e = .returned (.bool true) ∧ Below w.heap.size w w' := by
  have HLX := Lib.hid (left_eq (x := x) (textS_le hx))
  have HLZ := Lib.hid (left_eq (x := 0) (listS_le hz))
  have hkx := readK_le s r x
  have hkz := readK_le s q 0
  have hq := listS_le hz
  have HX := Lib.hid hx
  have HZ := Lib.hid hz
  have HTS := Lib.hid hts
  clear hx hz hts
  have hn : numS s 3 = _ := numS_eq s 3 (by omega) (by omega)
  rw [if_neg h3] at hn
  obtain ⟨N, hN⟩ : ∃ N, N = getN (s.data.toList.take 3) := ⟨_, rfl⟩
  rw [← hN] at hn
  have HG := Lib.hid hN
  have HL3 : Hid (((s.extract 3 s.size).size : Int) = (s.size : Int) - 3) := Lib.hid (by rw [size_rest]; omega)
  clear hN
  have HN := Lib.hid hn
  clear hn
  have hk : (((readK s q 0 : Nat) : Int) == (s.size : Int)) = true := by rw [readK, if_pos rfl]; simp; omega
  have HE : Hid (endE (goS s q 0) 0 = 0) := Lib.hid (by rw [endE, if_pos rfl, goS_ok, if_neg (by omega)])
  clear hq h0
  go_enter Try.func5, Try.ntmps5
  go_wp2_with fail
  refine (awake_any _).mono ?_
  rintro e w1 ⟨rfl, hb⟩
  have HB := Lib.hid hb
  clear hb
  go_wp2_with fail
  refine (new_post _ _).mono ?_
  rintro e w2 ⟨ba, rfl, hba, hra, hg⟩
  have HBA := Lib.hid (Nat.le_trans HB.out.size hba)
  have HB2 := Lib.hid (below_grown HB.out hg (Nat.le_refl _))
  have HRA := Lib.hid hra
  clear hba hra hg HB
  go_wp2_with fail
  refine (new_post _ _).mono ?_
  rintro e w3 ⟨bb, rfl, hbb, hrb, hg⟩
  have HBB := Lib.hid (Nat.le_trans HB2.out.size hbb)
  have HAB := Lib.hid (Nat.ne_of_lt (Nat.lt_of_lt_of_le HRA.out.lt hbb))
  have HB3 := Lib.hid (below_grown HB2.out hg (Nat.le_refl _))
  have HRA3 := Lib.hid (HRA.out.same hg)
  have HRB := Lib.hid hrb
  clear hbb hrb hg HB2 HRA
  go_wp2_with fail
  refine (new_post _ _).mono ?_
  rintro e w4 ⟨bc, rfl, hbc, hrc, hg⟩
  have HBC := Lib.hid (Nat.le_trans HB3.out.size hbc)
  have HAC := Lib.hid (Nat.ne_of_lt (Nat.lt_of_lt_of_le HRA3.out.lt hbc))
  have HBCC := Lib.hid (Nat.ne_of_lt (Nat.lt_of_lt_of_le HRB.out.lt hbc))
  have HB4 := Lib.hid (below_grown HB3.out hg (Nat.le_refl _))
  have HRA4 := Lib.hid (HRA3.out.same hg)
  have HRB4 := Lib.hid (HRB.out.same hg)
  have HRC := Lib.hid hrc
  clear hbc hrc hg HB3 HRA3 HRB
  go_wp2_with fail
  refine (get_any s 3 _ (by omega) (by omega)).mono ?_
  rintro e w5 ⟨rfl, rfl⟩
  rw [← HG.out]
  go_wp2_with fail
  refine (num_any _ _ _ _ HRA4.out HN.out).mono ?_
  rintro e w5 ⟨rfl, hr, hg⟩
  have HRA5 : Hid (Rd w5 ba (s.extract 3 s.size) 0) := Lib.hid hr
  have HRB5 := Lib.hid (HRB4.out.kept hg (Ne.symm HAB.out))
  have HRC5 := Lib.hid (HRC.out.kept hg (Ne.symm HAC.out))
  have HB5 := Lib.hid (below_grown' HB4.out hg (Nat.le_refl _) HBA.out)
  clear hr hg HRA4 HRB4 HRC HB4
  go_wp2_with fail
  refine (left_any _ _ _ _ HRA5.out).mono ?_
  rintro e w6 ⟨rfl, rfl⟩
  rw [HL3.out]
  go_wp2_with fail
  refine (refRead_any _ _ _ (by omega) HX.out).mono ?_
  rintro e w6 ⟨rfl, rfl⟩
  go_wp2_with fail
  refine (text_any _ _ _ _ HRB5.out HX.out).mono ?_
  rintro e w6 ⟨rfl, hr, hg⟩
  have HRB6 := Lib.hid hr
  have HRC6 := Lib.hid (HRC5.out.kept hg (Ne.symm HBCC.out))
  have HB6 := Lib.hid (below_grown' HB5.out hg (Nat.le_refl _) HBB.out)
  clear hr hg HRB5 HRC5 HB5
  go_wp2_with fail
  refine (err_any _ _ _ _ HRB6.out).mono ?_
  rintro e w7 ⟨rfl, rfl⟩
  go_wp2_with fail
  refine (left_any _ _ _ _ HRB6.out).mono ?_
  rintro e w7 ⟨rfl, rfl⟩
  rw [HLX.out]
  go_wp2_with fail
  refine (refReads_any _ _ _ _ (by omega) HZ.out).mono ?_
  rintro e w7 ⟨v, rfl, hv, hb⟩
  have HRC7 := Lib.hid (HRC6.out.below hb HRC6.out.lt)
  have HB7 := Lib.hid (HB6.out.trans (hb.mono HB6.out.size))
  have HCL := Lib.hid HRC6.out.lt
  have HV7 := Lib.hid hv
  clear hb hv HRC6 HB6 HRB6
  go_wp2_with fail
  refine (list_any _ _ _ _ _ HRC7.out HZ.out).mono ?_
  rintro e w8 ⟨u, rfl, hu, hr, hg⟩
  have HV8 := Lib.hid (HV7.out.kept hg (fun k e => by cases e; exact HCL.out)).zero
  have HU8 := Lib.hid hu.zero
  have HRC8 := Lib.hid hr
  have HB8 := Lib.hid (below_grown' HB7.out hg (Nat.le_refl _) HBC.out)
  clear hu hr hg HV7 HRC7 HB7
  go_wp2_with fail
  refine (same_any _ _ ts ts _ HU8.out HV8.out HTS.out).mono ?_
  rintro e w9 ⟨rfl, k, rfl⟩
  rw [decide_eq_true (show ts = ts from rfl)]
  have HRC9 := Lib.hid (HRC8.out.drewN k)
  have HB9 := Lib.hid (below_grown' HB8.out (grownBy_drewN _ k (some bc)) (Nat.le_refl _) HBC.out)
  clear HU8 HV8 HRC8 HB8
  go_wp2_with fail
  refine (err_any _ _ _ _ HRC9.out).mono ?_
  rintro e w10 ⟨rfl, rfl⟩
  go_wp2_with fail
  refine (left_any _ _ _ _ HRC9.out).mono ?_
  rintro e w10 ⟨rfl, rfl⟩
  rw [HLZ.out]
  go_wp2_with fail
  refine (end_any _ _ _ _ HRC9.out).mono ?_
  rintro e w10 ⟨rfl, rfl⟩
  rw [HE.out]
  go_wp2_with fail
  go_ret
  exact ⟨rfl, HB9.out⟩

set_option maxRecDepth 100000 in
set_option maxHeartbeats 1000000 in
theorem reads_long_more (s : ByteArray) (many most : Int) (w : World) {t r : ByteArray} {x : Int} {ts : List ByteArray} {q : ByteArray} (hs : s.size ≤ 300) (hx : textS s most = (t, r, x)) (hz : listS s many most = (ts, q, 0)) (hts : ts.length ≤ 1000000) (h3 : ¬ s.size < 3) (h0 : 0 < q.size) :
    Calls Try.prog 5 #[.string s, .int .i64 many, .int .i64 most] w fun e w' => e = .returned (.bool true) ∧ Below w.heap.size w w' := by
  have HLX := Lib.hid (left_eq (x := x) (textS_le hx))
  have HLZ := Lib.hid (left_eq (x := 0) (listS_le hz))
  have hkx := readK_le s r x
  have hkz := readK_le s q 0
  have hq := listS_le hz
  have HX := Lib.hid hx
  have HZ := Lib.hid hz
  have HTS := Lib.hid hts
  clear hx hz hts
  have hn : numS s 3 = _ := numS_eq s 3 (by omega) (by omega)
  rw [if_neg h3] at hn
  obtain ⟨N, hN⟩ : ∃ N, N = getN (s.data.toList.take 3) := ⟨_, rfl⟩
  rw [← hN] at hn
  have HG := Lib.hid hN
  have HL3 : Hid (((s.extract 3 s.size).size : Int) = (s.size : Int) - 3) := Lib.hid (by rw [size_rest]; omega)
  clear hN
  have HN := Lib.hid hn
  clear hn
  have hk : (((readK s q 0 : Nat) : Int) == (s.size : Int)) = false := by rw [readK, if_pos rfl]; simp; omega
  have HE : Hid (endE (goS s q 0) 0 = 4) := Lib.hid (by rw [endE, if_pos rfl, goS_ok, if_pos h0])
  clear hq h0
  go_enter Try.func5, Try.ntmps5
  go_wp2_with fail
  refine (awake_any _).mono ?_
  rintro e w1 ⟨rfl, hb⟩
  have HB := Lib.hid hb
  clear hb
  go_wp2_with fail
  refine (new_post _ _).mono ?_
  rintro e w2 ⟨ba, rfl, hba, hra, hg⟩
  have HBA := Lib.hid (Nat.le_trans HB.out.size hba)
  have HB2 := Lib.hid (below_grown HB.out hg (Nat.le_refl _))
  have HRA := Lib.hid hra
  clear hba hra hg HB
  go_wp2_with fail
  refine (new_post _ _).mono ?_
  rintro e w3 ⟨bb, rfl, hbb, hrb, hg⟩
  have HBB := Lib.hid (Nat.le_trans HB2.out.size hbb)
  have HAB := Lib.hid (Nat.ne_of_lt (Nat.lt_of_lt_of_le HRA.out.lt hbb))
  have HB3 := Lib.hid (below_grown HB2.out hg (Nat.le_refl _))
  have HRA3 := Lib.hid (HRA.out.same hg)
  have HRB := Lib.hid hrb
  clear hbb hrb hg HB2 HRA
  go_wp2_with fail
  refine (new_post _ _).mono ?_
  rintro e w4 ⟨bc, rfl, hbc, hrc, hg⟩
  have HBC := Lib.hid (Nat.le_trans HB3.out.size hbc)
  have HAC := Lib.hid (Nat.ne_of_lt (Nat.lt_of_lt_of_le HRA3.out.lt hbc))
  have HBCC := Lib.hid (Nat.ne_of_lt (Nat.lt_of_lt_of_le HRB.out.lt hbc))
  have HB4 := Lib.hid (below_grown HB3.out hg (Nat.le_refl _))
  have HRA4 := Lib.hid (HRA3.out.same hg)
  have HRB4 := Lib.hid (HRB.out.same hg)
  have HRC := Lib.hid hrc
  clear hbc hrc hg HB3 HRA3 HRB
  go_wp2_with fail
  refine (get_any s 3 _ (by omega) (by omega)).mono ?_
  rintro e w5 ⟨rfl, rfl⟩
  rw [← HG.out]
  go_wp2_with fail
  refine (num_any _ _ _ _ HRA4.out HN.out).mono ?_
  rintro e w5 ⟨rfl, hr, hg⟩
  have HRA5 : Hid (Rd w5 ba (s.extract 3 s.size) 0) := Lib.hid hr
  have HRB5 := Lib.hid (HRB4.out.kept hg (Ne.symm HAB.out))
  have HRC5 := Lib.hid (HRC.out.kept hg (Ne.symm HAC.out))
  have HB5 := Lib.hid (below_grown' HB4.out hg (Nat.le_refl _) HBA.out)
  clear hr hg HRA4 HRB4 HRC HB4
  go_wp2_with fail
  refine (left_any _ _ _ _ HRA5.out).mono ?_
  rintro e w6 ⟨rfl, rfl⟩
  rw [HL3.out]
  go_wp2_with fail
  refine (refRead_any _ _ _ (by omega) HX.out).mono ?_
  rintro e w6 ⟨rfl, rfl⟩
  go_wp2_with fail
  refine (text_any _ _ _ _ HRB5.out HX.out).mono ?_
  rintro e w6 ⟨rfl, hr, hg⟩
  have HRB6 := Lib.hid hr
  have HRC6 := Lib.hid (HRC5.out.kept hg (Ne.symm HBCC.out))
  have HB6 := Lib.hid (below_grown' HB5.out hg (Nat.le_refl _) HBB.out)
  clear hr hg HRB5 HRC5 HB5
  go_wp2_with fail
  refine (err_any _ _ _ _ HRB6.out).mono ?_
  rintro e w7 ⟨rfl, rfl⟩
  go_wp2_with fail
  refine (left_any _ _ _ _ HRB6.out).mono ?_
  rintro e w7 ⟨rfl, rfl⟩
  rw [HLX.out]
  go_wp2_with fail
  refine (refReads_any _ _ _ _ (by omega) HZ.out).mono ?_
  rintro e w7 ⟨v, rfl, hv, hb⟩
  have HRC7 := Lib.hid (HRC6.out.below hb HRC6.out.lt)
  have HB7 := Lib.hid (HB6.out.trans (hb.mono HB6.out.size))
  have HCL := Lib.hid HRC6.out.lt
  have HV7 := Lib.hid hv
  clear hb hv HRC6 HB6 HRB6
  go_wp2_with fail
  refine (list_any _ _ _ _ _ HRC7.out HZ.out).mono ?_
  rintro e w8 ⟨u, rfl, hu, hr, hg⟩
  have HV8 := Lib.hid (HV7.out.kept hg (fun k e => by cases e; exact HCL.out)).zero
  have HU8 := Lib.hid hu.zero
  have HRC8 := Lib.hid hr
  have HB8 := Lib.hid (below_grown' HB7.out hg (Nat.le_refl _) HBC.out)
  clear hu hr hg HV7 HRC7 HB7
  go_wp2_with fail
  refine (same_any _ _ ts ts _ HU8.out HV8.out HTS.out).mono ?_
  rintro e w9 ⟨rfl, k, rfl⟩
  rw [decide_eq_true (show ts = ts from rfl)]
  have HRC9 := Lib.hid (HRC8.out.drewN k)
  have HB9 := Lib.hid (below_grown' HB8.out (grownBy_drewN _ k (some bc)) (Nat.le_refl _) HBC.out)
  clear HU8 HV8 HRC8 HB8
  go_wp2_with fail
  refine (err_any _ _ _ _ HRC9.out).mono ?_
  rintro e w10 ⟨rfl, rfl⟩
  go_wp2_with fail
  refine (left_any _ _ _ _ HRC9.out).mono ?_
  rintro e w10 ⟨rfl, rfl⟩
  rw [HLZ.out]
  go_wp2_with fail
  refine (end_any _ _ _ _ HRC9.out).mono ?_
  rintro e w10 ⟨rfl, rfl⟩
  rw [HE.out]
  go_wp2_with fail
  go_ret
  exact ⟨rfl, HB9.out⟩

set_option maxRecDepth 100000 in
set_option maxHeartbeats 1000000 in
theorem reads_long_err (s : ByteArray) (many most : Int) (w : World) {t r : ByteArray} {x : Int} {ts : List ByteArray} {q : ByteArray} {z : Int} (hs : s.size ≤ 300) (hx : textS s most = (t, r, x)) (hz : listS s many most = (ts, q, z)) (hts : ts.length ≤ 1000000) (h3 : ¬ s.size < 3) (h0 : ¬ z = 0) :
    Calls Try.prog 5 #[.string s, .int .i64 many, .int .i64 most] w fun e w' => e = .returned (.bool true) ∧ Below w.heap.size w w' := by
  have HLX := Lib.hid (left_eq (x := x) (textS_le hx))
  have HLZ := Lib.hid (left_eq (x := z) (listS_le hz))
  have hkx := readK_le s r x
  have hkz := readK_le s q z
  have hq := listS_le hz
  have HX := Lib.hid hx
  have HZ := Lib.hid hz
  have HTS := Lib.hid hts
  clear hx hz hts
  have hn : numS s 3 = _ := numS_eq s 3 (by omega) (by omega)
  rw [if_neg h3] at hn
  obtain ⟨N, hN⟩ : ∃ N, N = getN (s.data.toList.take 3) := ⟨_, rfl⟩
  rw [← hN] at hn
  have HG := Lib.hid hN
  have HL3 : Hid (((s.extract 3 s.size).size : Int) = (s.size : Int) - 3) := Lib.hid (by rw [size_rest]; omega)
  clear hN
  have HN := Lib.hid hn
  clear hn
  have hk : (z == 0) = false := by simpa using h0
  have HE : Hid (endE (goS s q z) z = z) := Lib.hid (by rw [endE, if_neg h0])
  have HGS : Hid ((goS s q z).size = s.size) := Lib.hid (by rw [goS_err _ _ h0])
  have HZ0 := Lib.hid h0
  clear hq h0
  go_enter Try.func5, Try.ntmps5
  go_wp2_with fail
  refine (awake_any _).mono ?_
  rintro e w1 ⟨rfl, hb⟩
  have HB := Lib.hid hb
  clear hb
  go_wp2_with fail
  refine (new_post _ _).mono ?_
  rintro e w2 ⟨ba, rfl, hba, hra, hg⟩
  have HBA := Lib.hid (Nat.le_trans HB.out.size hba)
  have HB2 := Lib.hid (below_grown HB.out hg (Nat.le_refl _))
  have HRA := Lib.hid hra
  clear hba hra hg HB
  go_wp2_with fail
  refine (new_post _ _).mono ?_
  rintro e w3 ⟨bb, rfl, hbb, hrb, hg⟩
  have HBB := Lib.hid (Nat.le_trans HB2.out.size hbb)
  have HAB := Lib.hid (Nat.ne_of_lt (Nat.lt_of_lt_of_le HRA.out.lt hbb))
  have HB3 := Lib.hid (below_grown HB2.out hg (Nat.le_refl _))
  have HRA3 := Lib.hid (HRA.out.same hg)
  have HRB := Lib.hid hrb
  clear hbb hrb hg HB2 HRA
  go_wp2_with fail
  refine (new_post _ _).mono ?_
  rintro e w4 ⟨bc, rfl, hbc, hrc, hg⟩
  have HBC := Lib.hid (Nat.le_trans HB3.out.size hbc)
  have HAC := Lib.hid (Nat.ne_of_lt (Nat.lt_of_lt_of_le HRA3.out.lt hbc))
  have HBCC := Lib.hid (Nat.ne_of_lt (Nat.lt_of_lt_of_le HRB.out.lt hbc))
  have HB4 := Lib.hid (below_grown HB3.out hg (Nat.le_refl _))
  have HRA4 := Lib.hid (HRA3.out.same hg)
  have HRB4 := Lib.hid (HRB.out.same hg)
  have HRC := Lib.hid hrc
  clear hbc hrc hg HB3 HRA3 HRB
  go_wp2_with fail
  refine (get_any s 3 _ (by omega) (by omega)).mono ?_
  rintro e w5 ⟨rfl, rfl⟩
  rw [← HG.out]
  go_wp2_with fail
  refine (num_any _ _ _ _ HRA4.out HN.out).mono ?_
  rintro e w5 ⟨rfl, hr, hg⟩
  have HRA5 : Hid (Rd w5 ba (s.extract 3 s.size) 0) := Lib.hid hr
  have HRB5 := Lib.hid (HRB4.out.kept hg (Ne.symm HAB.out))
  have HRC5 := Lib.hid (HRC.out.kept hg (Ne.symm HAC.out))
  have HB5 := Lib.hid (below_grown' HB4.out hg (Nat.le_refl _) HBA.out)
  clear hr hg HRA4 HRB4 HRC HB4
  go_wp2_with fail
  refine (left_any _ _ _ _ HRA5.out).mono ?_
  rintro e w6 ⟨rfl, rfl⟩
  rw [HL3.out]
  go_wp2_with fail
  refine (refRead_any _ _ _ (by omega) HX.out).mono ?_
  rintro e w6 ⟨rfl, rfl⟩
  go_wp2_with fail
  refine (text_any _ _ _ _ HRB5.out HX.out).mono ?_
  rintro e w6 ⟨rfl, hr, hg⟩
  have HRB6 := Lib.hid hr
  have HRC6 := Lib.hid (HRC5.out.kept hg (Ne.symm HBCC.out))
  have HB6 := Lib.hid (below_grown' HB5.out hg (Nat.le_refl _) HBB.out)
  clear hr hg HRB5 HRC5 HB5
  go_wp2_with fail
  refine (err_any _ _ _ _ HRB6.out).mono ?_
  rintro e w7 ⟨rfl, rfl⟩
  go_wp2_with fail
  refine (left_any _ _ _ _ HRB6.out).mono ?_
  rintro e w7 ⟨rfl, rfl⟩
  rw [HLX.out]
  go_wp2_with fail
  refine (refReads_any _ _ _ _ (by omega) HZ.out).mono ?_
  rintro e w7 ⟨v, rfl, hv, hb⟩
  have HRC7 := Lib.hid (HRC6.out.below hb HRC6.out.lt)
  have HB7 := Lib.hid (HB6.out.trans (hb.mono HB6.out.size))
  have HCL := Lib.hid HRC6.out.lt
  have HV7 := Lib.hid hv
  clear hb hv HRC6 HB6 HRB6
  go_wp2_with fail
  refine (list_any _ _ _ _ _ HRC7.out HZ.out).mono ?_
  rintro e w8 ⟨u, rfl, hu, hr, hg⟩
  have HV8 := Lib.hid (HV7.out.kept hg (fun k e => by cases e; exact HCL.out)).zero
  have HU8 := Lib.hid hu.zero
  have HRC8 := Lib.hid hr
  have HB8 := Lib.hid (below_grown' HB7.out hg (Nat.le_refl _) HBC.out)
  clear hu hr hg HV7 HRC7 HB7
  go_wp2_with fail
  refine (same_any _ _ ts ts _ HU8.out HV8.out HTS.out).mono ?_
  rintro e w9 ⟨rfl, k, rfl⟩
  rw [decide_eq_true (show ts = ts from rfl)]
  have HRC9 := Lib.hid (HRC8.out.drewN k)
  have HB9 := Lib.hid (below_grown' HB8.out (grownBy_drewN _ k (some bc)) (Nat.le_refl _) HBC.out)
  clear HU8 HV8 HRC8 HB8
  go_wp2_with fail
  refine (err_any _ _ _ _ HRC9.out).mono ?_
  rintro e w10 ⟨rfl, rfl⟩
  go_wp2_with fail
  refine (left_any _ _ _ _ HRC9.out).mono ?_
  rintro e w10 ⟨rfl, rfl⟩
  rw [HLZ.out]
  go_wp2_with fail
  refine (num_none _ _ _ _ _ HRC9.out HZ0.out).mono ?_
  rintro e w10 ⟨rfl, rfl⟩
  go_wp2_with fail
  refine (text_none _ _ _ _ _ HRC9.out HZ0.out).mono ?_
  rintro e w10 ⟨rfl, rfl⟩
  go_wp2_with fail
  refine (list_none _ _ _ _ _ _ HRC9.out HZ0.out).mono ?_
  rintro e w10 ⟨rfl, rfl⟩
  go_wp2_with fail
  refine (take_none _ _ _ _ _ HRC9.out HZ0.out).mono ?_
  rintro e w10 ⟨rfl, rfl⟩
  go_wp2_with fail
  refine (err_any _ _ _ _ HRC9.out).mono ?_
  rintro e w10 ⟨rfl, rfl⟩
  go_wp2_with fail
  refine (end_any _ _ _ _ HRC9.out).mono ?_
  rintro e w10 ⟨rfl, rfl⟩
  rw [HE.out]
  go_wp2_with fail
  refine (left_any _ _ _ _ HRC9.out).mono ?_
  rintro e w10 ⟨rfl, rfl⟩
  rw [HGS.out]
  go_wp2_with fail
  go_ret
  exact ⟨rfl, HB9.out⟩

set_option maxRecDepth 100000 in
theorem reads_great (s : ByteArray) (many most : Int) (w : World) (hs : 300 < s.size) :
    Calls Try.prog 5 #[.string s, .int .i64 many, .int .i64 most] w fun e w' => e = .returned (.bool true) ∧ Below w.heap.size w w' := by
  go_enter Try.func5, Try.ntmps5
  go_wp2_with fail
  refine (awake_any _).mono ?_
  rintro e w1 ⟨rfl, hb⟩
  have HB := Lib.hid hb
  clear hb
  go_wp2_with fail
  go_ret
  exact ⟨rfl, HB.out⟩

theorem textsS_count (most : Int) : ∀ (n : Nat) {s r : ByteArray} {acc ts : List ByteArray} {x : Int}, textsS most n s acc = (ts, r, x) → ts.length ≤ acc.length + n := by
  intro n
  induction n with
  | zero => intro s r acc ts x h; simp only [textsS, Prod.mk.injEq] at h; rw [h.1]; exact Nat.le_refl _
  | succ n ih =>
    intro s r acc ts x h
    rw [textsS] at h
    split at h
    · have := ih h
      simp at this
      omega
    · simp only [Prod.mk.injEq] at h; rw [← h.1]; exact Nat.zero_le _
theorem listS_count {s r : ByteArray} {ts : List ByteArray} {many most x : Int} (h : listS s many most = (ts, r, x)) : ts.length ≤ 1000000 := by
  rw [listS] at h
  split at h
  · split at h
    · simp only [Prod.mk.injEq] at h; rw [← h.1]; exact Nat.zero_le _
    · have h1 := textsS_count _ _ h
      have h2 := numS_lt (s := s) (n := 1) (v := (numS s 1).1) (r := (numS s 1).2.1) (y := (numS s 1).2.2) rfl
      simp at h1
      omega
  · simp only [Prod.mk.injEq] at h; rw [← h.1]; exact Nat.zero_le _

theorem walk_OctetReads (s : ByteArray) (many most : Int) (w : World) (_w0 : s.size ≤ maxLen) (_w1 : (Lit.int .i64 many).wf = true) (_w2 : (Lit.int .i64 most).wf = true) :
    Calls Try.prog 5 #[.string s, .int .i64 many, .int .i64 most] w fun e w' => e = .returned (.bool true) ∧ Below w.heap.size w w' := by
  rcases Nat.lt_or_ge 300 s.size with hs | hs
  · exact reads_great s many most w hs
  obtain ⟨t, r, x, hx⟩ : ∃ t r x, textS s most = (t, r, x) := ⟨_, _, _, rfl⟩
  obtain ⟨ts, q, z, hz⟩ : ∃ ts q z, listS s many most = (ts, q, z) := ⟨_, _, _, rfl⟩
  have hts := listS_count hz
  by_cases h3 : s.size < 3
  · by_cases h0 : z = 0
    · subst h0
      rcases Nat.eq_zero_or_pos q.size with h | h
      · exact reads_short_empty s many most w hs hx hz hts h3 h
      · exact reads_short_more s many most w hs hx hz hts h3 h
    · exact reads_short_err s many most w hs hx hz hts h3 h0
  · by_cases h0 : z = 0
    · subst h0
      rcases Nat.eq_zero_or_pos q.size with h | h
      · exact reads_long_empty s many most w hs hx hz hts h3 h
      · exact reads_long_more s many most w hs hx hz hts h3 h
    · exact reads_long_err s many most w hs hx hz hts h3 h0
end Go.Proofs.Ytjkcahandfacoaa
