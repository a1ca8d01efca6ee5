/-
  Prefixes, and the broker's own topics: the contracts of HasPrefix, CutPrefix, Of.
-/
import Derived.Test.YtelpkniockhjgaaGreatNamP
namespace Go.Proofs.YtelpkniockhjgaaGreat
open Go.RowKit Go.Deep

/-- A text begins with another one. -/
def hasB (s h : ByteArray) : Bool := decide (h.size ≤ s.size) && ((s.extract 0 h.size).toList == h.toList)
theorem has_short {s h : ByteArray} (k : ¬ h.size ≤ s.size) : hasB s h = false := by unfold hasB; simp [k]
theorem has_long {s h : ByteArray} (k : h.size ≤ s.size) : hasB s h = ((s.extract 0 h.size).toList == h.toList) := by unfold hasB; simp [k]
theorem has_le {s h : ByteArray} (k : hasB s h = true) : h.size ≤ s.size := by
  unfold hasB at k
  simp only [Bool.and_eq_true, decide_eq_true_eq] at k
  exact k.1

set_option maxRecDepth 100000 in
theorem hasPrefix_any (s h : ByteArray) (w : World) (hs : s.size ≤ maxLen) (hh : h.size ≤ maxLen) : Calls Tryz.prog 94 #[.string s, .string h] w fun e w' => e = .returned (.bool (hasB s h)) ∧ w = w' := by
  unfold maxLen at hs hh
  by_cases k : h.size ≤ s.size
  · go_enter Tryz.func94, Tryz.ntmps94
    go_wp2_with fail
    go_ret
    exact ⟨by rw [has_long k]; rfl, rfl⟩
  · go_enter Tryz.func94, Tryz.ntmps94
    go_wp2_with fail
    go_ret
    exact ⟨by rw [has_short k]; rfl, rfl⟩

theorem cutLite_any (s h : ByteArray) (x : Bool) (w : World) (hs : s.size ≤ maxLen) (hh : h.size ≤ maxLen) (hx : hasB s h = x) :
    Calls Tryz.prog 103 #[.string s, .string h] w fun e w' => e = .returned (.tuple #[.string (if x then s.extract h.size s.size else s), .bool x]) ∧ w = w' := by
  have HX := Lib.hid hx
  have hle : x = true → h.size ≤ s.size := fun e => has_le (hx.trans e)
  have hs' := hs
  have hh' := hh
  unfold maxLen at hs' hh'
  clear hx
  cases x
  · clear hle
    go_enter Tryz.func103, Tryz.ntmps103
    go_wp2_with fail
    refine (hasPrefix_any s h _ hs hh).mono ?_
    rintro e w1 ⟨rfl, rfl⟩
    rw [HX.out]
    go_wp2_with fail
    go_ret2
    exact ⟨rfl, rfl⟩
  · have hle := hle rfl
    go_enter Tryz.func103, Tryz.ntmps103
    go_wp2_with fail
    refine (hasPrefix_any s h _ hs hh).mono ?_
    rintro e w1 ⟨rfl, rfl⟩
    rw [HX.out]
    go_wp2_with fail
    go_ret2
    exact ⟨rfl, rfl⟩

theorem cut_any (s h : ByteArray) (x : Bool) (w : World) (hs : s.size ≤ maxLen) (hh : h.size ≤ maxLen) (hx : hasB s h = x) :
    Calls Tryz.prog 86 #[.string s, .string h] w fun e w' => e = .returned (.tuple #[.string (if x then s.extract h.size s.size else s), .bool x]) ∧ w = w' := by
  have HX := Lib.hid hx
  clear hx
  obtain ⟨t, ht⟩ : ∃ t, t = if x then s.extract h.size s.size else s := ⟨_, rfl⟩
  rw [← ht]
  have HT := Lib.hid ht
  clear ht
  go_enter Tryz.func86, Tryz.ntmps86
  go_wp2_with fail
  refine (cutLite_any s h x _ hs hh HX.out).mono ?_
  rintro e w1 ⟨rfl, rfl⟩
  rw [← HT.out]
  go_wp2_with fail
  go_ret2
  exact ⟨rfl, rfl⟩

abbrev retryH : ByteArray := ⟨#[37, 114, 101, 116, 114, 121, 37]⟩
abbrev deadH : ByteArray := ⟨#[37, 100, 101, 97, 100, 37]⟩

/-- A topic of the broker's own: a head, and a group. -/
def ownB (s h : ByteArray) : Bool := hasB s h && groupB (s.extract h.size s.size)
def ofB (s : ByteArray) : ByteArray := if ownB s retryH then s.extract 7 s.size else if ownB s deadH then s.extract 6 s.size else ⟨#[]⟩
def isOwn (s : ByteArray) : Bool := ownB s retryH || ownB s deadH

theorem extract_le (s : ByteArray) (k : Nat) : (s.extract k s.size).size ≤ s.size := by
  rw [ByteArray.size_extract]; omega

set_option maxRecDepth 100000 in
theorem of_any (s : ByteArray) (w : World) (hs : s.size ≤ maxLen) : Calls Tryz.prog 63 #[.string s] w fun e w' => e = .returned (.tuple #[.string (ofB s), .bool (isOwn s)]) ∧ Below w.heap.size w w' := by
  have i0 : ∀ w, (Instr.index 112 (.agg #[.string retryH, .string deadH]) (.int .i64 0)).run Tryz.prog w = .ok (.string retryH) w := fun _ => by kernel_rfl
  have i1 : ∀ w, (Instr.index 112 (.agg #[.string retryH, .string deadH]) (.int .i64 1)).run Tryz.prog w = .ok (.string deadH) w := fun _ => by kernel_rfl
  go_enter Tryz.func63, Tryz.ntmps63
  go_wp2_with fail
  go_loopw [9] (fun i wr => Below w.heap.size w wr ∧ (i = .int .i64 0 ∨ (i = .int .i64 1 ∧ ownB s retryH = false) ∨ (i = .int .i64 2 ∧ ownB s retryH = false ∧ ownB s deadH = false))) (fun i _ => 2 - (intOf i).toNat)
  case atStart => exact ⟨Below.refl _ _, .inl rfl⟩
  case round =>
    obtain ⟨hb, hrel⟩ := hrel
    have HB := Lib.hid hb
    clear hb
    rcases hrel with rfl | ⟨rfl, hr⟩ | ⟨rfl, hr, hd⟩
    · skip
      cases hx : hasB s retryH
      · have HX := Lib.hid hx
        have HN : Hid (ownB s retryH = false) := Lib.hid (by unfold ownB; rw [hx]; rfl)
        clear hx
        go_wp2_with fail
        refine (cut_any s retryH false _ hs (by decide) HX.out).mono ?_
        rintro e w1 ⟨rfl, rfl⟩
        go_wp2_with fail
        exact ⟨⟨HB.out, .inr (.inl ⟨rfl, HN.out⟩)⟩, by simp [intOf]⟩
      · have HX := Lib.hid hx
        obtain ⟨t, ht⟩ : ∃ t, t = s.extract 7 s.size := ⟨_, rfl⟩
        have htl : t.size ≤ maxLen := by rw [ht]; exact Nat.le_trans (extract_le s 7) hs
        have HE : Hid (ownB s retryH = groupB t) := Lib.hid (by unfold ownB; rw [hx, ht]; rfl)
        have HT := Lib.hid ht
        clear hx ht
        go_wp2_with fail
        refine (cut_any s retryH true _ hs (by decide) HX.out).mono ?_
        rintro e w1 ⟨rfl, rfl⟩
        rw [if_pos rfl, show (retryH).size = 7 from rfl, ← HT.out]
        go_wp2_with fail
        refine (group_any t _ htl).mono ?_
        rintro e w2 ⟨rfl, hb⟩
        have HB2 := Lib.hid (HB.out.trans (hb.mono HB.out.size))
        clear hb
        cases hg : groupB t
        · have HN : Hid (ownB s retryH = false) := Lib.hid (HE.out.trans hg)
          clear hg
          go_wp2_with fail
          exact ⟨⟨HB2.out, .inr (.inl ⟨rfl, HN.out⟩)⟩, by simp [intOf]⟩
        · have HN : Hid (ownB s retryH = true) := Lib.hid (HE.out.trans hg)
          clear hg
          go_wp2_with fail
          go_ret2
          exact ⟨by rw [show ofB s = t from by unfold ofB; rw [if_pos HN.out, HT.out], show isOwn s = true from by unfold isOwn; rw [HN.out]; rfl]; rfl, HB2.out⟩
    · have HR := Lib.hid hr
      clear hr
      cases hx : hasB s deadH
      · have HX := Lib.hid hx
        have HN : Hid (ownB s deadH = false) := Lib.hid (by unfold ownB; rw [hx]; rfl)
        clear hx
        go_wp2_with fail
        refine (cut_any s deadH false _ hs (by decide) HX.out).mono ?_
        rintro e w1 ⟨rfl, rfl⟩
        go_wp2_with fail
        exact ⟨⟨HB.out, .inr (.inr ⟨rfl, HR.out, HN.out⟩)⟩, by simp [intOf]⟩
      · have HX := Lib.hid hx
        obtain ⟨t, ht⟩ : ∃ t, t = s.extract 6 s.size := ⟨_, rfl⟩
        have htl : t.size ≤ maxLen := by rw [ht]; exact Nat.le_trans (extract_le s 6) hs
        have HE : Hid (ownB s deadH = groupB t) := Lib.hid (by unfold ownB; rw [hx, ht]; rfl)
        have HT := Lib.hid ht
        clear hx ht
        go_wp2_with fail
        refine (cut_any s deadH true _ hs (by decide) HX.out).mono ?_
        rintro e w1 ⟨rfl, rfl⟩
        rw [if_pos rfl, show (deadH).size = 6 from rfl, ← HT.out]
        go_wp2_with fail
        refine (group_any t _ htl).mono ?_
        rintro e w2 ⟨rfl, hb⟩
        have HB2 := Lib.hid (HB.out.trans (hb.mono HB.out.size))
        clear hb
        cases hg : groupB t
        · have HN : Hid (ownB s deadH = false) := Lib.hid (HE.out.trans hg)
          clear hg
          go_wp2_with fail
          exact ⟨⟨HB2.out, .inr (.inr ⟨rfl, HR.out, HN.out⟩)⟩, by simp [intOf]⟩
        · have HN : Hid (ownB s deadH = true) := Lib.hid (HE.out.trans hg)
          clear hg
          go_wp2_with fail
          go_ret2
          exact ⟨by rw [show ofB s = t from by unfold ofB; rw [if_neg (by rw [HR.out]; decide), if_pos HN.out, HT.out], show isOwn s = true from by unfold isOwn; rw [HN.out, Bool.or_true]]; rfl, HB2.out⟩
    · have HF : Hid (ofB s = ⟨#[]⟩) := Lib.hid (by unfold ofB; rw [hr, hd]; rfl)
      have HI : Hid (isOwn s = false) := Lib.hid (by unfold isOwn; rw [hr, hd]; rfl)
      clear hr hd
      go_wp2_with fail
      go_ret2
      exact ⟨by rw [HF.out, HI.out]; rfl, HB.out⟩
end Go.Proofs.YtelpkniockhjgaaGreat
