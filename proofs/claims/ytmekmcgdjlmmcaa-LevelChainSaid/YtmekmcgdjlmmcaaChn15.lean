/-
  Part 15: what the statement needs of these texts: LvB.
-/
import Derived.BigQuiet
import Derived.Deep.DeepCutAuto
import Derived.Deep.DeepMust
import Derived.Deep.OwnRows
import Derived.Deep.QuietTactic
import Derived.Deep.RegionHeld3
import Derived.Deep.RegionLaw
import Derived.Deep.RegionWith
import Derived.Defers
import Derived.Laws.BitsAllLaws
import Derived.Laws.PanicsMore
import Derived.Laws.Rows
import Derived.Laws.StructEq
import Derived.Lib.AppendStr
import Derived.Lib.Hide
import Derived.Lib.MinMax
import Derived.Lib.OthersKept
import Derived.Lib.Repeat
import Derived.ProofKit
import Derived.Recover
import Derived.Shelf.Strings.Builder1
import Derived.Shelf.Strings.Prefix
import Derived.Shelf.Strings.Repeat
import Derived.StillTailTactics
import Derived.Test.YtmekmcgdjlmmcaaProg
import Derived.Test.YtmekmcgdjlmmcaaRows
import Derived.WalkKit
import Derived.WalkLawsBesides
import Derived.WalkSmall
import Derived.WalkSpells
import Derived.Test.YtmekmcgdjlmmcaaChn1
import Derived.Test.YtmekmcgdjlmmcaaChn2
import Derived.Test.YtmekmcgdjlmmcaaChn3
import Derived.Test.YtmekmcgdjlmmcaaChn4
import Derived.Test.YtmekmcgdjlmmcaaChn5
import Derived.Test.YtmekmcgdjlmmcaaChn6
import Derived.Test.YtmekmcgdjlmmcaaChn7
import Derived.Test.YtmekmcgdjlmmcaaChn9
import Derived.Test.YtmekmcgdjlmmcaaChn10
import Derived.Test.YtmekmcgdjlmmcaaChn11
import Derived.Test.YtmekmcgdjlmmcaaChn12
import Derived.Test.YtmekmcgdjlmmcaaChn13
import Derived.Test.YtmekmcgdjlmmcaaChn14
namespace Go.Proofs.Ytmekmcgdjlmmcaa
open Go.RowKit Go.Deep
set_option linter.unusedVariables false
set_option linter.unusedSimpArgs false

def mayB (m : MsgM) : Bool := rightB m && (decide (m.kind = 1) || decide (m.kind = 3))
set_option maxHeartbeats 4000000 in
set_option maxRecDepth 100000 in
theorem mayFail_any (m : MsgM) (vk : Value) (x : Bool) (w : World) (hk : Strs w 0 vk m.keys) (hcap : CapOk vk) (hs : Sound m) (hx : mayB m = x) :
    Calls Try.prog 18 #[m.val vk] w fun e w' => e = .returned (.bool x) ∧ Below w.heap.size w w' := by
  obtain ⟨r, hr⟩ : ∃ r, rightB m = r := ⟨_, rfl⟩
  unfold mayB at hx
  rw [hr] at hx
  obtain ⟨W0, hW0⟩ : ∃ W, W = w.alloc (.cells #[.int .i64 m.kind, .int .i64 m.queue, .int .i64 m.due, .int .i64 m.retry, .int .i64 m.ref, .int .i64 m.born, .string m.topic, .string m.tag, .string m.body, vk] 24) := ⟨_, rfl⟩
  have hl0 : Below w.heap.size w W0 := by rw [hW0]; exact (Below.refl w.heap.size w).alloc (Nat.le_refl _) _
  have hb0 : Box W0 w.heap.size #[.int .i64 m.kind, .int .i64 m.queue, .int .i64 m.due, .int .i64 m.retry, .int .i64 m.ref, .int .i64 m.born, .string m.topic, .string m.tag, .string m.body, vk] := by rw [hW0]; exact Box.new w _
  have HR : Hid (Calls Try.prog 28 #[m.val vk] W0 fun e w' => e = .returned (.bool r) ∧ Below W0.heap.size W0 w') := Lib.hid (right_any m vk r W0 (hk.below hl0 (Nat.le_refl _)) hcap hs hr)
  have HL := Lib.hid hl0
  have HW := Lib.hid hW0
  have HB := Lib.hid hb0
  have k0 := hb0.cell
  clear hl0 hW0 hb0 hk hcap hs hr
  unfold MsgM.val MsgM.cells at *
  cases r
  · obtain rfl : false = x := by simpa using hx
    clear hx
    go_enter Try.func18, Try.ntmps18
    go_wp2_with fail
    rw [← HW.out]
    refine HR.out.mono ?_
    rintro e w1 ⟨rfl, hb⟩
    have HB1 := Lib.hid (HL.out.trans (hb.mono HL.out.size))
    clear k0 hb
    go_wp2_with fail
    go_ret
    exact ⟨rfl, HB1.out⟩
  · by_cases h1 : m.kind = 1
    · obtain rfl : true = x := by rw [← hx]; simp [h1]
      have z1 : (m.kind == 1) = true := by simp [h1]
      clear hx h1
      go_enter Try.func18, Try.ntmps18
      go_wp2_with fail
      rw [← HW.out]
      refine HR.out.mono ?_
      rintro e w1 ⟨rfl, hb⟩
      have HB1 := Lib.hid (HL.out.trans (hb.mono HL.out.size))
      have k1 := (HB.out.below hb HB.out.lt).cell
      clear k0 hb
      go_wp2_with fail
      go_ret
      exact ⟨rfl, HB1.out⟩
    · have z1 : (m.kind == 1) = false := by simp [h1]
      obtain ⟨z3, hz3⟩ : ∃ z, (m.kind == 3) = z := ⟨_, rfl⟩
      obtain rfl : z3 = x := by rw [← hx, ← hz3]; simp [h1]; rfl
      clear hx h1
      go_enter Try.func18, Try.ntmps18
      go_wp2_with fail
      rw [← HW.out]
      refine HR.out.mono ?_
      rintro e w1 ⟨rfl, hb⟩
      have HB1 := Lib.hid (HL.out.trans (hb.mono HL.out.size))
      have k1 := (HB.out.below hb HB.out.lt).cell
      clear k0 hb
      go_wp2_with fail
      go_ret
      exact ⟨rfl, HB1.out⟩

/-- A time, or a number, that may be asked for. -/
def smallB (n : Int) : Bool := decide (0 ≤ n) && decide (n ≤ 1099511626776)
theorem small_cell {W : World} {b : Nat} {x y : Int} (h0 : W.cell? ⟨b, 0, none⟩ = some (.int .i64 x)) (h1 : W.cell? ⟨b, 1, none⟩ = some (.int .i64 y)) : ∀ k, k < 2 → W.cell? ⟨b, k, none⟩ = some (.int .i64 (if k = 0 then x else y)) := by
  intro k hk
  have : k = 0 ∨ k = 1 := by omega
  rcases this with rfl | rfl
  · exact h0
  · exact h1
set_option maxHeartbeats 4000000 in
theorem mayBe_any (b : Nat) (x y : Int) (z : Bool) (W : World) (h0 : W.cell? ⟨b, 0, none⟩ = some (.int .i64 x)) (h1 : W.cell? ⟨b, 1, none⟩ = some (.int .i64 y)) (hz : (smallB x && smallB y) = z) :
    Calls Try.prog 19 #[.slice (some ⟨b, 0, none⟩) 2 2] W fun e w' => e = .returned (.bool z) ∧ W = w' := by
  have HC := Lib.hid (small_cell h0 h1)
  have HZ := Lib.hid hz
  clear hz h0 h1
  go_enter Try.func19, Try.ntmps19
  go_wp2_with fail
  go_loopw [7] (fun i wr => ∃ k : Nat, k ≤ 2 ∧ i = .int .i64 k ∧ (0 < k → smallB x = true) ∧ (1 < k → smallB y = true) ∧ wr = W) (fun i _ => 2 - (intOf i).toNat)
  case atStart => exact ⟨0, Nat.zero_le _, rfl, (fun h => absurd h (Nat.lt_irrefl _)), (fun h => absurd h (by decide)), rfl⟩
  case round =>
    obtain ⟨k, hk, rfl, hx, hy, rfl⟩ := hrel
    have HX := Lib.hid (And.intro hx hy)
    clear hx hy
    by_cases hlt : k < 2
    · have kc := HC.out k hlt
      obtain ⟨n, hn⟩ : ∃ n, n = (if k = 0 then x else y) := ⟨_, rfl⟩
      rw [← hn] at kc
      have HN := Lib.hid hn
      clear hn
      by_cases hn0 : n < 0
      · have zn : decide (n < 0) = true := decide_eq_true hn0
        go_wp2_with fail
        go_ret
        refine ⟨?_, rfl⟩
        have hf : smallB n = false := by unfold smallB; rw [decide_eq_false (by omega)]; rfl
        rw [HN.out] at hf
        rw [← HZ.out]
        split at hf <;> rw [hf] <;> simp
      · by_cases hn1 : 1099511626776 < n
        · have zn : decide (n < 0) = false := decide_eq_false hn0
          have zm : decide (1099511626776 < n) = true := decide_eq_true hn1
          go_wp2_with fail
          go_ret
          refine ⟨?_, rfl⟩
          have hf : smallB n = false := by unfold smallB; rw [decide_eq_false (show ¬ n ≤ 1099511626776 by omega), Bool.and_false]
          rw [HN.out] at hf
          rw [← HZ.out]
          split at hf <;> rw [hf] <;> simp
        · have zn : decide (n < 0) = false := decide_eq_false hn0
          have zm : decide (1099511626776 < n) = false := decide_eq_false hn1
          have hs : smallB n = true := by unfold smallB; rw [decide_eq_true (show 0 ≤ n by omega), decide_eq_true (show n ≤ 1099511626776 by omega)]; rfl
          have HS := Lib.hid hs
          clear hs
          go_wp2_with fail
          refine ⟨⟨k + 1, by omega, by go_num, ?_, ?_, trivial⟩, by simp [intOf]; omega⟩
          · intro _
            by_cases hk0 : k = 0
            · have := HS.out
              rw [HN.out, if_pos hk0] at this
              exact this
            · exact HX.out.1 (by omega)
          · intro h
            have := HS.out
            rw [HN.out, if_neg (by omega)] at this
            exact this
    · obtain rfl : k = 2 := by omega
      obtain rfl : true = z := by rw [← HZ.out, HX.out.1 (by decide), HX.out.2 (by decide)]; rfl
      go_wp2_with fail
      go_ret
      exact ⟨rfl, rfl⟩
end Go.Proofs.Ytmekmcgdjlmmcaa

