/-
  Get: the record with which bytes begin.
-/
import Derived.Test.YtelpkniockhjgaaGreatRecG
namespace Go.Proofs.YtelpkniockhjgaaGreat
open Go.RowKit Go.Deep
set_option linter.unusedVariables false
set_option linter.unusedSimpArgs false

abbrev fH : ByteArray := ⟨#[90]⟩
abbrev rH : ByteArray := ⟨#[165]⟩
theorem hasP_any (s h : ByteArray) (x : Bool) (w : World) (hs : s.size ≤ maxLen) (hh : h.size ≤ maxLen) (hx : hasB s h = x) : Calls Tryz.prog 72 #[.string s, .string h] w fun e w' => e = .returned (.bool x) ∧ w = w' := by
  have HP := Lib.hid (hasPrefix_any s h w hs hh)
  rw [hx] at HP
  clear hx
  go_enter Tryz.func72, Tryz.ntmps72
  go_wp2_with (go_at_call 94; refine HP.out.mono ?_; rintro e w1 ⟨rfl, rfl⟩)
  go_ret
  exact ⟨rfl, rfl⟩
theorem isF_any (s : ByteArray) (x : Bool) (w : World) (hs : s.size ≤ maxLen) (hx : hasB s fH = x) : Calls Tryz.prog 53 #[.string s] w fun e w' => e = .returned (.bool x) ∧ w = w' := by
  have HP := Lib.hid (hasP_any s fH x w hs (by unfold maxLen; decide) hx)
  clear hx
  go_enter Tryz.func53, Tryz.ntmps53
  go_wp2_with (go_at_call 72; refine HP.out.mono ?_; rintro e w1 ⟨rfl, rfl⟩)
  go_ret
  exact ⟨rfl, rfl⟩
theorem isR_any (s : ByteArray) (x : Bool) (w : World) (hs : s.size ≤ maxLen) (hx : hasB s rH = x) : Calls Tryz.prog 54 #[.string s] w fun e w' => e = .returned (.bool x) ∧ w = w' := by
  have HP := Lib.hid (hasP_any s rH x w hs (by unfold maxLen; decide) hx)
  clear hx
  go_enter Tryz.func54, Tryz.ntmps54
  go_wp2_with (go_at_call 72; refine HP.out.mono ?_; rintro e w1 ⟨rfl, rfl⟩)
  go_ret
  exact ⟨rfl, rfl⟩
/-- What the length's bytes tell. -/
def toldN (s : ByteArray) : Nat := (Oc.numS (s.extract 1 s.size) 2).1
def lenS (s : ByteArray) : Int × Int :=
  if s.toList.isEmpty = false ∧ hasB s fH = false ∧ hasB s rH = false then (0, 4)
  else if s.size < 3 then (0, 3)
  else if toldN s < 3 ∨ (hasB s fH = true ∧ 1024 < toldN s) then (0, 4)
  else if s.size < toldN s then (0, 3)
  else ((toldN s : Int), 0)
theorem length_any (s : ByteArray) (n x : Int) (w : World) (hs : s.size ≤ maxLen) (hl : lenS s = (n, x)) : Calls Tryz.prog 31 #[.string s] w fun e w' => e = .returned (.tuple #[.int .i64 n, .int .i64 x]) ∧ Below w.heap.size w w' := by
  obtain ⟨zf, hf⟩ : ∃ z, hasB s fH = z := ⟨_, rfl⟩
  obtain ⟨zr, hr⟩ : ∃ z, hasB s rH = z := ⟨_, rfl⟩
  unfold lenS at hl
  rw [hf, hr] at hl
  have HF := Lib.hid fun W => isF_any s zf W hs hf
  have HR := Lib.hid fun W => isR_any s zr W hs hr
  have hsI : (s.size : Int) ≤ 9223372036854775807 := by unfold maxLen at hs; omega
  clear hf hr hs
  have finish : ∀ (hne : ¬ (s.toList.isEmpty = false ∧ zf = false ∧ zr = false)), Calls Tryz.prog 31 #[.string s] w fun e w' => e = .returned (.tuple #[.int .i64 n, .int .i64 x]) ∧ Below w.heap.size w w' := by
    intro hne
    rw [if_neg hne] at hl
    have hpre : (s.toList.isEmpty = true) ∨ (s.toList.isEmpty = false ∧ zf = true) ∨ (s.toList.isEmpty = false ∧ zf = false ∧ zr = true) := by
      by_cases he : s.toList.isEmpty = true
      · exact .inl he
      have he : s.toList.isEmpty = false := by simpa using he
      by_cases h1 : zf = true
      · exact .inr (.inl ⟨he, h1⟩)
      have h1 : zf = false := by simpa using h1
      by_cases h2 : zr = true
      · exact .inr (.inr ⟨he, h1, h2⟩)
      · exact absurd ⟨he, h1, by simpa using h2⟩ hne
    by_cases h3 : s.size < 3
    · rw [if_pos h3] at hl
      simp only [Prod.mk.injEq] at hl
      obtain ⟨rfl, rfl⟩ := hl
      clear hne
      have h3' : (s.size : Int) < 3 := by omega
      rcases hpre with he | ⟨he, rfl⟩ | ⟨he, rfl, rfl⟩
      · go_enter Tryz.func31, Tryz.ntmps31
        go_wp2_with fail
        go_ret2
        exact ⟨rfl, Below.refl _ _⟩
      · go_enter Tryz.func31, Tryz.ntmps31
        go_wp2_with (go_at_call 53; refine (HF.out _).mono ?_; rintro e w1 ⟨rfl, rfl⟩)
        go_ret2
        exact ⟨rfl, Below.refl _ _⟩
      · go_enter Tryz.func31, Tryz.ntmps31
        go_wp2_with (first | (go_at_call 53; refine (HF.out _).mono ?_; rintro e w1 ⟨rfl, rfl⟩) | (go_at_call 54; refine (HR.out _).mono ?_; rintro e w1 ⟨rfl, rfl⟩))
        go_ret2
        exact ⟨rfl, Below.refl _ _⟩
    · rw [if_neg h3] at hl
      have he : s.toList.isEmpty = false := by
        cases hx : s.toList.isEmpty with
        | false => rfl
        | true => have := empty_size hx; omega
      obtain ⟨v, rest, y, hc⟩ : ∃ v r y, Oc.numS (s.extract 1 s.size) 2 = (v, r, y) := ⟨_, _, _, rfl⟩
      have hv : toldN s = v := by unfold toldN; rw [hc]
      have hvl : v < 65536 := Oc.numS_lt (n := 2) hc
      rw [hv] at hl
      have HN : Hid (Calls Tryz.prog 56 #[.pointer (some ⟨w.heap.size, 0, none⟩), .int .i64 2] (w.alloc (.cells #[.string (s.extract 1 s.size), .int .i64 0] 94)) fun e w' => e = .returned (.int .i64 v) ∧ Below w.heap.size w w') := Lib.hid (by
        refine (Oc.num_any w.heap.size (s.extract 1 s.size) 2 _ (heap_alloc_new w _) hc).mono ?_
        rintro e w' ⟨rfl, _, hg⟩
        exact ⟨rfl, below_grown' ((Below.refl w.heap.size w).alloc (Nat.le_refl _) _) hg (Nat.le_refl _) (Nat.le_refl _)⟩)
      have h1s : (1 : Int) ≤ s.size := by omega
      have h3' : ¬ (s.size : Int) < 3 := by omega
      clear hc hv
      have hzz : zf = true ∨ (zf = false ∧ zr = true) := by
        rcases hpre with h | ⟨_, h⟩ | ⟨_, h, h'⟩
        · rw [he] at h; cases h
        · exact .inl h
        · exact .inr ⟨h, h'⟩
      clear hne hpre h3
      by_cases c1 : v < 3
      · rw [if_pos (.inl c1)] at hl
        simp only [Prod.mk.injEq] at hl
        obtain ⟨rfl, rfl⟩ := hl
        have c1' : (v : Int) < 3 := by omega
        rcases hzz with rfl | ⟨rfl, rfl⟩
        all_goals
          go_enter Tryz.func31, Tryz.ntmps31
          go_wp2_with (first | (go_at_call 53; refine (HF.out _).mono ?_; rintro e w1 ⟨rfl, rfl⟩) | (go_at_call 54; refine (HR.out _).mono ?_; rintro e w1 ⟨rfl, rfl⟩) | (go_at_call 55; refine (Oc.new_any _ _).mono ?_; rintro e w1 ⟨rfl, rfl⟩))
          refine HN.out.mono ?_
          rintro e w2 ⟨rfl, hb⟩
          have HB := Lib.hid hb
          clear hb
          go_wp2_with (first | (go_at_call 53; refine (HF.out _).mono ?_; rintro e w3 ⟨rfl, rfl⟩))
          go_ret2
          exact ⟨rfl, HB.out⟩
      · have c1' : ¬ (v : Int) < 3 := by omega
        rcases hzz with rfl | ⟨rfl, rfl⟩
        · by_cases c2 : 1024 < v
          · rw [if_pos (.inr ⟨rfl, c2⟩)] at hl
            simp only [Prod.mk.injEq] at hl
            obtain ⟨rfl, rfl⟩ := hl
            have c2' : (1024 : Int) < v := by omega
            go_enter Tryz.func31, Tryz.ntmps31
            go_wp2_with (first | (go_at_call 53; refine (HF.out _).mono ?_; rintro e w1 ⟨rfl, rfl⟩) | (go_at_call 55; refine (Oc.new_any _ _).mono ?_; rintro e w1 ⟨rfl, rfl⟩))
            refine HN.out.mono ?_
            rintro e w2 ⟨rfl, hb⟩
            have HB := Lib.hid hb
            clear hb
            go_wp2_with (first | (go_at_call 53; refine (HF.out _).mono ?_; rintro e w3 ⟨rfl, rfl⟩))
            go_ret2
            exact ⟨rfl, HB.out⟩
          · rw [if_neg (fun h => h.elim c1 (fun h => c2 h.2))] at hl
            have c2' : ¬ (1024 : Int) < v := by omega
            by_cases c4 : s.size < v
            · rw [if_pos c4] at hl
              simp only [Prod.mk.injEq] at hl
              obtain ⟨rfl, rfl⟩ := hl
              have c4' : (s.size : Int) < (v : Int) := by omega
              clear c1 c2
              go_enter Tryz.func31, Tryz.ntmps31
              go_wp2_with (first | (go_at_call 53; refine (HF.out _).mono ?_; rintro e w1 ⟨rfl, rfl⟩) | (go_at_call 55; refine (Oc.new_any _ _).mono ?_; rintro e w1 ⟨rfl, rfl⟩))
              refine HN.out.mono ?_
              rintro e w2 ⟨rfl, hb⟩
              have HB := Lib.hid hb
              clear hb
              go_wp2_with (first | (go_at_call 53; refine (HF.out _).mono ?_; rintro e w3 ⟨rfl, rfl⟩))
              go_ret2
              exact ⟨rfl, HB.out⟩
            · rw [if_neg c4] at hl
              simp only [Prod.mk.injEq] at hl
              obtain ⟨rfl, rfl⟩ := hl
              have c4' : ¬ (s.size : Int) < (v : Int) := by omega
              clear c1 c2
              go_enter Tryz.func31, Tryz.ntmps31
              go_wp2_with (first | (go_at_call 53; refine (HF.out _).mono ?_; rintro e w1 ⟨rfl, rfl⟩) | (go_at_call 55; refine (Oc.new_any _ _).mono ?_; rintro e w1 ⟨rfl, rfl⟩))
              refine HN.out.mono ?_
              rintro e w2 ⟨rfl, hb⟩
              have HB := Lib.hid hb
              clear hb
              go_wp2_with (first | (go_at_call 53; refine (HF.out _).mono ?_; rintro e w3 ⟨rfl, rfl⟩))
              go_ret2
              exact ⟨rfl, HB.out⟩
        · rw [if_neg (fun h => h.elim c1 (fun h => by cases h.1))] at hl
          by_cases c4 : s.size < v
          · rw [if_pos c4] at hl
            simp only [Prod.mk.injEq] at hl
            obtain ⟨rfl, rfl⟩ := hl
            have c4' : (s.size : Int) < (v : Int) := by omega
            clear c1
            go_enter Tryz.func31, Tryz.ntmps31
            go_wp2_with (first | (go_at_call 53; refine (HF.out _).mono ?_; rintro e w1 ⟨rfl, rfl⟩) | (go_at_call 54; refine (HR.out _).mono ?_; rintro e w1 ⟨rfl, rfl⟩) | (go_at_call 55; refine (Oc.new_any _ _).mono ?_; rintro e w1 ⟨rfl, rfl⟩))
            refine HN.out.mono ?_
            rintro e w2 ⟨rfl, hb⟩
            have HB := Lib.hid hb
            clear hb
            go_wp2_with (first | (go_at_call 53; refine (HF.out _).mono ?_; rintro e w3 ⟨rfl, rfl⟩))
            go_ret2
            exact ⟨rfl, HB.out⟩
          · rw [if_neg c4] at hl
            simp only [Prod.mk.injEq] at hl
            obtain ⟨rfl, rfl⟩ := hl
            have c4' : ¬ (s.size : Int) < (v : Int) := by omega
            clear c1
            go_enter Tryz.func31, Tryz.ntmps31
            go_wp2_with (first | (go_at_call 53; refine (HF.out _).mono ?_; rintro e w1 ⟨rfl, rfl⟩) | (go_at_call 54; refine (HR.out _).mono ?_; rintro e w1 ⟨rfl, rfl⟩) | (go_at_call 55; refine (Oc.new_any _ _).mono ?_; rintro e w1 ⟨rfl, rfl⟩))
            refine HN.out.mono ?_
            rintro e w2 ⟨rfl, hb⟩
            have HB := Lib.hid hb
            clear hb
            go_wp2_with (first | (go_at_call 53; refine (HF.out _).mono ?_; rintro e w3 ⟨rfl, rfl⟩))
            go_ret2
            exact ⟨rfl, HB.out⟩
  by_cases hne : s.toList.isEmpty = false ∧ zf = false ∧ zr = false
  · clear finish
    rw [if_pos hne] at hl
    obtain ⟨he, rfl, rfl⟩ := hne
    simp only [Prod.mk.injEq] at hl
    obtain ⟨rfl, rfl⟩ := hl
    go_enter Tryz.func31, Tryz.ntmps31
    go_wp2_with (first | (go_at_call 53; refine (HF.out _).mono ?_; rintro e w1 ⟨rfl, rfl⟩) | (go_at_call 54; refine (HR.out _).mono ?_; rintro e w1 ⟨rfl, rfl⟩))
    go_ret2
    exact ⟨rfl, Below.refl _ _⟩
  · exact finish hne
def fillM (n : Nat) : MsgM := ⟨0, 0, 0, 0, 0, 0, ⟨#[]⟩, ⟨#[]⟩, nots n, []⟩
/-- What the record of all of s is, or what is wrong. -/
def openedS (s : ByteArray) : MsgM × Int :=
  if hasB s fH = true then (if notsB (s.extract 3 s.size) = true then (fillM s.size, 0) else (zeroM, 4))
  else if Cr.openB (s.extract 3 s.size) = true then (if unpB (Cr.openS (s.extract 3 s.size)) = true then ((unpS (Cr.openS (s.extract 3 s.size))).m, 0) else (zeroM, 4)) else (zeroM, 5)
def getS (s : ByteArray) : MsgM × Int × Int :=
  if (lenS s).2 ≠ 0 then (zeroM, 0, (lenS s).2)
  else if (openedS (s.extract 0 (lenS s).1.toNat)).2 ≠ 0 then (zeroM, 0, (openedS (s.extract 0 (lenS s).1.toNat)).2)
  else ((openedS (s.extract 0 (lenS s).1.toNat)).1, (lenS s).1, 0)
/-- A record handed back, with what was wrong. -/
def OpenTo (m : MsgM) (x : Int) (w : World) (e : Ending) (w' : World) : Prop := ∃ vk, e = .returned (.tuple #[m.val vk, .int .i64 x]) ∧ Strs w' w.heap.size vk m.keys ∧ CapOk vk ∧ Below w.heap.size w w'
theorem box_zero (w : World) : Box (w.alloc (.cells zc 24)) w.heap.size zc := Box.new w zc
set_option maxHeartbeats 2000000 in
set_option maxRecDepth 100000 in
theorem filler_any (s : ByteArray) (m : MsgM) (x : Int) (w : World) (h3 : 3 ≤ s.size) (hs : s.size ≤ 1000000) (hm : (if notsB (s.extract 3 s.size) = true then (fillM s.size, (0 : Int)) else (zeroM, 4)) = (m, x)) :
    Calls Tryz.prog 57 #[.string s] w (OpenTo m x w) := by
  obtain ⟨z, hz⟩ : ∃ z, notsB (s.extract 3 s.size) = z := ⟨_, rfl⟩
  rw [hz] at hm
  have hez : (s.extract 3 s.size).size ≤ 1000000 := by rw [ByteArray.size_extract]; omega
  have HN := Lib.hid fun W => areNots_any (s.extract 3 s.size) z W hez hz
  obtain ⟨W0, hW0⟩ : ∃ W, W = w.alloc (.cells #[.int .i64 0, .int .i64 0, .int .i64 0, .int .i64 0, .int .i64 0, .int .i64 0, .string ⟨#[]⟩, .string ⟨#[]⟩, .string ⟨#[]⟩, .slice none 0 0] 24) := ⟨_, rfl⟩
  have hb0 : Box W0 w.heap.size zc := hW0 ▸ box_zero w
  have hl0 : Below w.heap.size w W0 := hW0 ▸ (Below.refl _ _).alloc (Nat.le_refl _) _
  have HB0 := Lib.hid hb0
  have HL0 := Lib.hid hl0
  have HW0 := Lib.hid hW0
  have h3I : (3 : Int) ≤ s.size := by omega
  clear hb0 hl0 hW0 hez hz
  cases z
  · rw [if_neg (by decide)] at hm
    simp only [Prod.mk.injEq] at hm
    obtain ⟨rfl, rfl⟩ := hm
    go_enter Tryz.func57, Tryz.ntmps57
    go_wp2_with fail
    rw [← HW0.out]
    refine (HN.out W0).mono ?_
    rintro e w1 ⟨rfl, hb⟩
    have HZ := Lib.hid (HB0.out.below hb HB0.out.lt)
    have HBL := Lib.hid (HL0.out.trans (hb.mono HL0.out.size))
    have hzm := HZ.out.cell
    have hzf := HZ.out.free
    simp only [zc] at hzm
    clear hb
    go_wp2_with fail
    obtain ⟨W, hW⟩ : ∃ W, W = set10 w1 w.heap.size (.int .i64 0) (.int .i64 0) (.int .i64 0) (.int .i64 0) (.int .i64 0) (.int .i64 0) (.string ⟨#[]⟩) (.string ⟨#[]⟩) (.string ⟨#[]⟩) (.slice none 0 0) := ⟨_, rfl⟩
    have hbx : Box W w.heap.size #[.int .i64 0, .int .i64 0, .int .i64 0, .int .i64 0, .int .i64 0, .int .i64 0, .string ⟨#[]⟩, .string ⟨#[]⟩, .string ⟨#[]⟩, .slice none 0 0] := by rw [hW]; exact box_set10 HZ.out _ _ _ _ _ _ _ _ _ _
    have hbl : Below w.heap.size w W := by rw [hW]; exact below_set10 HBL.out (Nat.le_refl _) _ _ _ _ _ _ _ _ _ _
    unfold set10 at hW
    rw [← hW]
    have hpm := Box.cell hbx
    exact bodyPost_ret (v := .tuple #[zeroM.val (.slice none 0 0), .int .i64 4]) (by simp [results, Tryz.results57, go_sem, hpm, zeroM, MsgM.val, MsgM.cells]) rfl ⟨.slice none 0 0, rfl, ⟨none, 0, rfl, .inl rfl⟩, ⟨none, 0, 0, rfl, Nat.le_refl _⟩, hbl⟩
  · rw [if_pos rfl] at hm
    simp only [Prod.mk.injEq] at hm
    obtain ⟨rfl, rfl⟩ := hm
    obtain ⟨t, ht⟩ : ∃ t, t = nots s.size := ⟨_, rfl⟩
    have HT : Hid (∀ W, Calls Tryz.prog 37 #[.int .i64 s.size] W fun e w' => e = .returned (.string t) ∧ Below W.heap.size W w') := Lib.hid fun W => by rw [ht]; exact nots_any s.size W (by omega)
    have HTE := Lib.hid ht
    clear ht
    go_enter Tryz.func57, Tryz.ntmps57
    go_wp2_with fail
    rw [← HW0.out]
    refine (HN.out W0).mono ?_
    rintro e w1 ⟨rfl, hb⟩
    have HZ1 := Lib.hid (HB0.out.below hb HB0.out.lt)
    have HBL1 := Lib.hid (HL0.out.trans (hb.mono HL0.out.size))
    clear hb
    go_wp2_with fail
    refine (HT.out w1).mono ?_
    rintro e w2 ⟨rfl, hb⟩
    have HZ := Lib.hid (HZ1.out.below hb HZ1.out.lt)
    have HBL := Lib.hid (HBL1.out.trans (hb.mono HBL1.out.size))
    have hzm := HZ.out.cell
    have hzf := HZ.out.free
    simp only [zc] at hzm
    clear hb
    go_wp2_with fail
    obtain ⟨W, hW⟩ : ∃ W, W = set10 w2 w.heap.size (.int .i64 0) (.int .i64 0) (.int .i64 0) (.int .i64 0) (.int .i64 0) (.int .i64 0) (.string ⟨#[]⟩) (.string ⟨#[]⟩) (.string t) (.slice none 0 0) := ⟨_, rfl⟩
    have hbx : Box W w.heap.size #[.int .i64 0, .int .i64 0, .int .i64 0, .int .i64 0, .int .i64 0, .int .i64 0, .string ⟨#[]⟩, .string ⟨#[]⟩, .string t, .slice none 0 0] := by rw [hW]; exact box_set10 HZ.out _ _ _ _ _ _ _ _ _ _
    have hbl : Below w.heap.size w W := by rw [hW]; exact below_set10 HBL.out (Nat.le_refl _) _ _ _ _ _ _ _ _ _ _
    unfold set10 at hW
    rw [← hW]
    have hpm := Box.cell hbx
    exact bodyPost_ret (v := .tuple #[(fillM s.size).val (.slice none 0 0), .int .i64 0]) (by simp [results, Tryz.results57, go_sem, hpm, fillM, MsgM.val, MsgM.cells, HTE.out]) rfl ⟨.slice none 0 0, rfl, ⟨none, 0, rfl, .inl rfl⟩, ⟨none, 0, 0, rfl, Nat.le_refl _⟩, hbl⟩
end Go.Proofs.YtelpkniockhjgaaGreat
