/-
  Part 6: what the statement needs of these texts: LvA, LvL.
-/
import Derived.BigQuiet
import Derived.Deep.OwnRows
import Derived.Deep.QuietTactic
import Derived.Lib.Hide
import Derived.Lib.MinMax
import Derived.ProofKit
import Derived.Test.YtmekmcgdjlmmcaaRows
import Derived.WalkKit
import Derived.WalkLawsBesides
import Derived.WalkSpells
import Derived.Test.YtmekmcgdjlmmcaaChn4
namespace Go.Proofs.Ytmekmcgdjlmmcaa
open Go.RowKit Go.Deep
set_option linter.unusedVariables false
set_option linter.unusedSimpArgs false

/-- A level's delay. -/
def delayN (n : Int) : Int := if n = 1 then 2 else if n = 2 then 4 else if n = 3 then 8 else if n = 4 then 16 else 0
theorem delay_any (n d : Int) (w : World) (hd : delayN n = d) : Calls Try.prog 13 #[.int .i64 n] w fun e w' => e = .returned (.int .i64 d) ∧ w = w' := by
  by_cases h1 : n < 1
  · obtain rfl : 0 = d := by rw [← hd]; unfold delayN; rw [if_neg (by omega), if_neg (by omega), if_neg (by omega), if_neg (by omega)]
    have k1 : decide (n < 1) = true := decide_eq_true h1
    clear hd
    go_enter Try.func13, Try.ntmps13
    go_wp2
    go_ret
    exact ⟨rfl, rfl⟩
  · by_cases h2 : 4 < n
    · obtain rfl : 0 = d := by rw [← hd]; unfold delayN; rw [if_neg (by omega), if_neg (by omega), if_neg (by omega), if_neg (by omega)]
      have k1 : decide (n < 1) = false := decide_eq_false h1
      have k2 : decide (4 < n) = true := decide_eq_true h2
      clear hd
      go_enter Try.func13, Try.ntmps13
      go_wp2
      go_ret
      exact ⟨rfl, rfl⟩
    · have h3 : n = 1 ∨ n = 2 ∨ n = 3 ∨ n = 4 := by omega
      rcases h3 with rfl | rfl | rfl | rfl
      all_goals
        subst hd
        clear h1 h2
        go_enter Try.func13, Try.ntmps13
        go_wp2
        go_ret
        exact ⟨rfl, rfl⟩
/-- A time's slot, of a time from 0 on. -/
theorem slot_any (n : Int) (w : World) (h0 : 0 ≤ n) : Calls Try.prog 14 #[.int .i64 n] w fun e w' => e = .returned (.int .i64 (n % 16)) ∧ w = w' := by
  have ht : Int.tmod n 16 = n % 16 := Int.tmod_eq_emod_of_nonneg h0
  have hm : max n 0 = n := by omega
  have HT := Lib.hid ht
  clear ht
  go_enter Try.func14, Try.ntmps14
  go_wp2
  go_ret
  exact ⟨rfl, rfl⟩
theorem lawake_any (w : World) : Calls Try.prog 6 #[] w fun e w' => e = .returned (.bool true) ∧ w = w' := by
  go_enter Try.func6, Try.ntmps6
  go_wp2_with fail
  refine (delay_any 3 8 _ rfl).mono ?_
  rintro e w1 ⟨rfl, rfl⟩
  go_wp2_with fail
  refine (slot_any 17 _ (by decide)).mono ?_
  rintro e w1 ⟨rfl, rfl⟩
  go_wp2
  go_ret
  exact ⟨rfl, rfl⟩
end Go.Proofs.Ytmekmcgdjlmmcaa

namespace Go.Proofs.Ytmekmcgdjlmmcaa
open Go.RowKit Go.Deep
set_option linter.unusedVariables false
set_option linter.unusedSimpArgs false

theorem u32_wf {n : Int} (h : (Lit.int .u32 n).wf = true) : 0 ≤ n ∧ n ≤ 4294967295 := by
  have h2 : IntKind.u32.min ≤ n ∧ n ≤ IntKind.u32.max := by simpa [Lit.wf] using h
  exact h2
end Go.Proofs.Ytmekmcgdjlmmcaa

