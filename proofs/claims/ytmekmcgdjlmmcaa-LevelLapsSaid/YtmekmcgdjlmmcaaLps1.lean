/-
  Part 1: what the statement needs of these texts: LvA, LvL.
-/
import Derived.BigQuiet
import Derived.Deep.OwnRows
import Derived.Deep.QuietTactic
import Derived.Lib.Hide
import Derived.Lib.MinMax
import Derived.ProofKit
import Derived.Test.YtmekmcgdjlmmcaaRows
import Derived.WalkKit
import Derived.WalkLawsBesides
import Derived.WalkSpells
namespace Go.Proofs.Ytmekmcgdjlmmcaa
open Go.RowKit Go.Deep
set_option linter.unusedVariables false
set_option linter.unusedSimpArgs false

/-- A level's delay. -/
def delayN (n : Int) : Int := if n = 1 then 2 else if n = 2 then 4 else if n = 3 then 8 else if n = 4 then 16 else 0
theorem delay_any (n d : Int) (w : World) (hd : delayN n = d) : Calls Try.prog 13 #[.int .i64 n] w fun e w' => e = .returned (.int .i64 d) ∧ w = w' := by
  by_cases h1 : n < 1
  · obtain rfl : 0 = d := by rw [← hd]; unfold delayN; rw [if_neg (by omega), if_neg (by omega), if_neg (by omega), if_neg (by omega)]
    have k1 : decide (n < 1) = true := decide_eq_true h1
    clear hd
    go_enter Try.func13, Try.ntmps13
    go_wp2
    go_ret
    exact ⟨rfl, rfl⟩
  · by_cases h2 : 4 < n
    · obtain rfl : 0 = d := by rw [← hd]; unfold delayN; rw [if_neg (by omega), if_neg (by omega), if_neg (by omega), if_neg (by omega)]
      have k1 : decide (n < 1) = false := decide_eq_false h1
      have k2 : decide (4 < n) = true := decide_eq_true h2
      clear hd
      go_enter Try.func13, Try.ntmps13
      go_wp2
      go_ret
      exact ⟨rfl, rfl⟩
    · have h3 : n = 1 ∨ n = 2 ∨ n = 3 ∨ n = 4 := by omega
      rcases h3 with rfl | rfl | rfl | rfl
      all_goals
        subst hd
        clear h1 h2
        go_enter Try.func13, Try.ntmps13
        go_wp2
        go_ret
        exact ⟨rfl, rfl⟩
/-- A time's slot, of a time from 0 on. -/
theorem slot_any (n : Int) (w : World) (h0 : 0 ≤ n) : Calls Try.prog 14 #[.int .i64 n] w fun e w' => e = .returned (.int .i64 (n % 16)) ∧ w = w' := by
  have ht : Int.tmod n 16 = n % 16 := Int.tmod_eq_emod_of_nonneg h0
  have hm : max n 0 = n := by omega
  have HT := Lib.hid ht
  clear ht
  go_enter Try.func14, Try.ntmps14
  go_wp2
  go_ret
  exact ⟨rfl, rfl⟩
/-- How often the hand goes by. -/
def lapsN (a b : Int) : Int := if a ≤ b then 0 else (a - b) / 16
theorem laps_any (a b z : Int) (w : World) (ha : 0 ≤ a) (hb : 0 ≤ b) (ha2 : a ≤ 1099511627776) (hb2 : b ≤ 1099511627776) (hz : lapsN a b = z) : Calls Try.prog 15 #[.int .i64 a, .int .i64 b] w fun e w' => e = .returned (.int .i64 z) ∧ w = w' := by
  unfold lapsN at hz
  by_cases h : a ≤ b
  · rw [if_pos h] at hz
    subst hz
    go_enter Try.func15, Try.ntmps15
    go_wp2
    go_ret
    exact ⟨rfl, rfl⟩
  · rw [if_neg h] at hz
    have k : decide (a ≤ b) = false := decide_eq_false h
    have HZ := Lib.hid hz
    clear hz
    go_enter Try.func15, Try.ntmps15
    go_wp2
    go_ret
    rw [HZ.out]
    exact ⟨rfl, rfl⟩
theorem far_any (a b : Int) (x : Bool) (w : World) (ha : 0 ≤ a) (hb : 0 ≤ b) (ha2 : a ≤ 1099511627776) (hb2 : b ≤ 1099511627776) (hx : decide (0 < lapsN a b) = x) : Calls Try.prog 16 #[.int .i64 a, .int .i64 b] w fun e w' => e = .returned (.bool x) ∧ w = w' := by
  obtain ⟨z, hz⟩ : ∃ z, z = lapsN a b := ⟨_, rfl⟩
  rw [← hz] at hx
  have HZ := Lib.hid hz.symm
  clear hz
  have HA := Lib.hid (And.intro (And.intro ha hb) (And.intro ha2 hb2))
  clear ha hb ha2 hb2
  go_enter Try.func16, Try.ntmps16
  go_wp2_with fail
  refine (laps_any a b z _ HA.out.1.1 HA.out.1.2 HA.out.2.1 HA.out.2.2 HZ.out).mono ?_
  rintro e w1 ⟨rfl, rfl⟩
  go_wp2
  go_ret
  exact ⟨rfl, rfl⟩
theorem lawake_any (w : World) : Calls Try.prog 6 #[] w fun e w' => e = .returned (.bool true) ∧ w = w' := by
  go_enter Try.func6, Try.ntmps6
  go_wp2_with fail
  refine (delay_any 3 8 _ rfl).mono ?_
  rintro e w1 ⟨rfl, rfl⟩
  go_wp2_with fail
  refine (slot_any 17 _ (by decide)).mono ?_
  rintro e w1 ⟨rfl, rfl⟩
  go_wp2
  go_ret
  exact ⟨rfl, rfl⟩
end Go.Proofs.Ytmekmcgdjlmmcaa

namespace Go.Proofs.Ytmekmcgdjlmmcaa
open Go.RowKit Go.Deep
set_option linter.unusedVariables false
set_option linter.unusedSimpArgs false

theorem tmod_zero (x y : Int) : (x - y).tmod 16 = 0 ↔ x % 16 = y % 16 := by
  rw [← Int.dvd_iff_tmod_eq_zero]
  omega
theorem u32_wf {n : Int} (h : (Lit.int .u32 n).wf = true) : 0 ≤ n ∧ n ≤ 4294967295 := by
  have h2 : IntKind.u32.min ≤ n ∧ n ≤ IntKind.u32.max := by simpa [Lit.wf] using h
  exact h2
theorem u16_wf {n : Int} (h : (Lit.int .u16 n).wf = true) : 0 ≤ n ∧ n ≤ 65535 := by
  have h2 : IntKind.u16.min ≤ n ∧ n ≤ IntKind.u16.max := by simpa [Lit.wf] using h
  exact h2
def IsIt (x : Value) (w : World) (e : Ending) (w' : World) : Prop := e = .returned x ∧ w = w'
set_option maxHeartbeats 4000000 in
theorem laps_law (n a b x y l1 l2 l3 : Int) (w : World) (hx : x = n + a) (hy : y = n + b) (hn : 0 ≤ n ∧ n ≤ 4294967295) (ha : 0 ≤ a ∧ a ≤ 65535) (hb : 0 ≤ b ∧ b ≤ 65535) (q r s t : Bool) (hq : decide (x % 16 = y % 16) = q) (hr : decide (n < x) = r) (hs : decide (0 < l2) = s) (ht : decide (y < x) = t)
    (h1 : lapsN (x + 16) n = l1) (h2 : lapsN x n = l2) (h3 : lapsN y n = l3) :
    Calls Try.prog 5 #[.int .u32 n, .int .u16 a, .int .u16 b] w (IsIt (.bool true) w) := by
  have k2 : decide ((x - y).tmod 16 = 0) = q := by rw [← hq]; exact decide_eq_decide.2 (tmod_zero _ _)
  have k3 : r = true → l1 = l2 + 1 := by
    intro h
    have hlt := of_decide_eq_true (hr.trans h)
    rw [← h1, ← h2]
    unfold lapsN
    rw [if_neg (by omega), if_neg (by omega)]
    omega
  have k4 : s = true → decide (n + 16 ≤ x) = true := by
    intro h
    have h5 := of_decide_eq_true (hs.trans h)
    refine decide_eq_true ?_
    rw [← h2] at h5
    unfold lapsN at h5
    split at h5 <;> omega
  have k5 : t = false → decide (l2 ≤ l3) = true := by
    intro h
    have h5 := of_decide_eq_false (ht.trans h)
    refine decide_eq_true ?_
    rw [← h2, ← h3]
    unfold lapsN
    split <;> split <;> omega
  have k6 : 0 ≤ l1 ∧ l1 ≤ 1000000 ∧ 0 ≤ l2 ∧ l2 ≤ 1000000 := by
    rw [← h1, ← h2]
    unfold lapsN
    split <;> split <;> omega
  obtain ⟨k61, k62, k63, k64⟩ := k6
  have HF : Hid (decide (0 < lapsN x n) = s) := Lib.hid (by rw [h2]; exact hs)
  have H1 := Lib.hid h1
  have H2 := Lib.hid h2
  have H3 := Lib.hid h3
  have hx0 : 0 ≤ x := by omega
  have hx1 : x ≤ 5000000000 := by omega
  have hy0 : 0 ≤ y := by omega
  have hy1 : y ≤ 5000000000 := by omega
  have hn1 := hn.1
  have hn2 := hn.2
  have ha1 := ha.1
  have ha2 := ha.2
  have hb1 := hb.1
  have hb2 := hb.2
  have HX := Lib.hid hx
  have HY := Lib.hid hy
  have HR := Lib.hid hr
  have HT := Lib.hid ht
  have HS := Lib.hid hs
  have HQ := Lib.hid hq
  have HK := Lib.hid k2
  clear hn ha hb h1 h2 h3 hx hy hr ht hs hq k2
  go_enter Try.func5, Try.ntmps5
  go_wp2_with fail
  refine (lawake_any _).mono ?_
  rintro e w1 ⟨rfl, rfl⟩
  go_wp2_with fail
  rw [← HX.out, ← HY.out]
  have HAB := Lib.hid (And.intro (And.intro ha1 ha2) (And.intro hb1 hb2))
  clear ha1 ha2 hb1 hb2
  refine (slot_any x _ (by omega)).mono ?_
  rintro e w1 ⟨rfl, rfl⟩
  go_wp2_with fail
  refine (slot_any y _ (by omega)).mono ?_
  rintro e w1 ⟨rfl, rfl⟩
  have kA : (x % 16 == y % 16) = q := HQ.out
  have kB : ((x - y).tmod 16 == 0) = q := HK.out
  have kC : (q != q) = false := by cases q <;> rfl
  have hr := HR.out
  have ht := HT.out
  have hs := HS.out
  clear HR HT HS
  cases r
  case true =>
    have k7 := k3 rfl
    have k8 : (l1 != l2 + 1) = false := by rw [k7]; simp
    clear k3 k7
    go_wp2_with fail
    refine (laps_any (x + 16) n l1 _ (by omega) (by omega) (by omega) (by omega) H1.out).mono ?_
    rintro e w1 ⟨rfl, rfl⟩
    go_wp2_with fail
    refine (laps_any (x) n l2 _ (by omega) (by omega) (by omega) (by omega) H2.out).mono ?_
    rintro e w1 ⟨rfl, rfl⟩
    cases s
    · clear k4
      go_wp2_with fail
      refine (far_any x n false _ (by omega) (by omega) (by omega) (by omega) HF.out).mono ?_
      rintro e w1 ⟨rfl, rfl⟩
      go_wp2_with fail
      refine (laps_any (x) n l2 _ (by omega) (by omega) (by omega) (by omega) H2.out).mono ?_
      rintro e w1 ⟨rfl, rfl⟩
      go_wp2_with fail
      refine (far_any x n false _ (by omega) (by omega) (by omega) (by omega) HF.out).mono ?_
      rintro e w1 ⟨rfl, rfl⟩
      cases t
      · have k5 := k5 rfl
        go_wp2_with fail
        refine (laps_any (x) n l2 _ (by omega) (by omega) (by omega) (by omega) H2.out).mono ?_
        rintro e w1 ⟨rfl, rfl⟩
        go_wp2_with fail
        refine (laps_any (y) n l3 _ (by omega) (by omega) (by omega) (by omega) H3.out).mono ?_
        rintro e w1 ⟨rfl, rfl⟩
        go_wp2
        go_ret
        exact ⟨rfl, rfl⟩
      · clear k5
        go_wp2
        go_ret
        exact ⟨rfl, rfl⟩
    · have k4 := k4 rfl
      go_wp2_with fail
      refine (far_any x n true _ (by omega) (by omega) (by omega) (by omega) HF.out).mono ?_
      rintro e w1 ⟨rfl, rfl⟩
      go_wp2_with fail
      refine (laps_any (x) n l2 _ (by omega) (by omega) (by omega) (by omega) H2.out).mono ?_
      rintro e w1 ⟨rfl, rfl⟩
      go_wp2_with fail
      refine (far_any x n true _ (by omega) (by omega) (by omega) (by omega) HF.out).mono ?_
      rintro e w1 ⟨rfl, rfl⟩
      cases t
      · have k5 := k5 rfl
        go_wp2_with fail
        refine (laps_any (x) n l2 _ (by omega) (by omega) (by omega) (by omega) H2.out).mono ?_
        rintro e w1 ⟨rfl, rfl⟩
        go_wp2_with fail
        refine (laps_any (y) n l3 _ (by omega) (by omega) (by omega) (by omega) H3.out).mono ?_
        rintro e w1 ⟨rfl, rfl⟩
        go_wp2
        go_ret
        exact ⟨rfl, rfl⟩
      · clear k5
        go_wp2
        go_ret
        exact ⟨rfl, rfl⟩
  case false =>
    clear k3
    cases s
    · clear k4
      go_wp2_with fail
      refine (far_any x n false _ (by omega) (by omega) (by omega) (by omega) HF.out).mono ?_
      rintro e w1 ⟨rfl, rfl⟩
      go_wp2_with fail
      refine (laps_any (x) n l2 _ (by omega) (by omega) (by omega) (by omega) H2.out).mono ?_
      rintro e w1 ⟨rfl, rfl⟩
      go_wp2_with fail
      refine (far_any x n false _ (by omega) (by omega) (by omega) (by omega) HF.out).mono ?_
      rintro e w1 ⟨rfl, rfl⟩
      cases t
      · have k5 := k5 rfl
        go_wp2_with fail
        refine (laps_any (x) n l2 _ (by omega) (by omega) (by omega) (by omega) H2.out).mono ?_
        rintro e w1 ⟨rfl, rfl⟩
        go_wp2_with fail
        refine (laps_any (y) n l3 _ (by omega) (by omega) (by omega) (by omega) H3.out).mono ?_
        rintro e w1 ⟨rfl, rfl⟩
        go_wp2
        go_ret
        exact ⟨rfl, rfl⟩
      · clear k5
        go_wp2
        go_ret
        exact ⟨rfl, rfl⟩
    · have k4 := k4 rfl
      go_wp2_with fail
      refine (far_any x n true _ (by omega) (by omega) (by omega) (by omega) HF.out).mono ?_
      rintro e w1 ⟨rfl, rfl⟩
      go_wp2_with fail
      refine (laps_any (x) n l2 _ (by omega) (by omega) (by omega) (by omega) H2.out).mono ?_
      rintro e w1 ⟨rfl, rfl⟩
      go_wp2_with fail
      refine (far_any x n true _ (by omega) (by omega) (by omega) (by omega) HF.out).mono ?_
      rintro e w1 ⟨rfl, rfl⟩
      cases t
      · have k5 := k5 rfl
        go_wp2_with fail
        refine (laps_any (x) n l2 _ (by omega) (by omega) (by omega) (by omega) H2.out).mono ?_
        rintro e w1 ⟨rfl, rfl⟩
        go_wp2_with fail
        refine (laps_any (y) n l3 _ (by omega) (by omega) (by omega) (by omega) H3.out).mono ?_
        rintro e w1 ⟨rfl, rfl⟩
        go_wp2
        go_ret
        exact ⟨rfl, rfl⟩
      · clear k5
        go_wp2
        go_ret
        exact ⟨rfl, rfl⟩
theorem walk_LevelLaps (n a b : Int) (w : World) (hn : (Lit.int .u32 n).wf = true) (ha : (Lit.int .u16 a).wf = true) (hb : (Lit.int .u16 b).wf = true) :
    Calls Try.prog 5 #[.int .u32 n, .int .u16 a, .int .u16 b] w fun e w' => e = .returned (.bool true) ∧ Below w.heap.size w w' := by
  refine (laps_law n a b (n + a) (n + b) _ _ _ w rfl rfl (u32_wf hn) (u16_wf ha) (u16_wf hb) _ _ _ _ rfl rfl rfl rfl rfl rfl rfl).mono ?_
  rintro e w' ⟨rfl, rfl⟩
  exact ⟨rfl, Below.refl _ _⟩
end Go.Proofs.Ytmekmcgdjlmmcaa

