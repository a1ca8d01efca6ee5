/- A part. -/
import Derived.Deep.DeepCutAuto
import Derived.Deep.RegionHeld3
import Derived.Lib.MinMax
import Derived.Test.YtkbgococmkcjaaaWla13
set_option linter.unusedVariables false
set_option linter.unusedSimpArgs false
namespace Go.Proofs.Ytkbgococmkcjaaa
open Go.RowKit Go.Deep
attribute [local go_sem] fr_opt
theorem hahead_any (b o : Nat) (x now : Int) (w : World) (hc : w.cell? ⟨b, o, none⟩ = some (.int .i64 x)) (h0 : 0 ≤ x) (hx : x ≤ 9223372036854775807) (hn : now ≤ 9223372036854775807) :
    Calls Try.prog 35 #[.pointer (some ⟨b, o, none⟩), .int .i64 now] w fun e w' => e = .returned (.int .i64 (max (now - x) 0)) ∧ ∃ k, w' = w.drewN k := by
  obtain ⟨m, hm⟩ : ∃ m, m = max now x := ⟨_, rfl⟩
  have e1 : IntKind.i64.wrap (max now x - x) = max (now - x) 0 := by rw [IntWalk.i64_in _ (by omega)]; omega
  have HE := Lib.hid e1
  have e2 : max now x - x = max (now - x) 0 := by omega
  have HE2 := Lib.hid e2
  go_enter Try.func35, Try.ntmps35
  go_upto_region 1 with fail
  go_region
  all_goals (try go_wp2)
  all_goals go_ret
  all_goals first | exact ⟨rfl, _, rfl⟩ | exact ⟨by rw [HE.out], _, rfl⟩ | exact ⟨by rw [HE2.out], _, rfl⟩
theorem ahead_any {w0 w : World} {wb : Nat} {g : Gh} {st : St} {n : Nat} {hd : Int} {L : List Nat} (h : WhI w0 w wb g st n hd L) (now : Int) (h0 : 0 ≤ hd) (hx : hd ≤ 9223372036854775807) (hn : now ≤ 9223372036854775807) :
    Calls Try.prog 19 #[.pointer (some ⟨wb, 0, none⟩), .int .i64 now] w fun e w' => e = .returned (.int .i64 (max (now - hd) 0)) ∧ ∃ k, w' = w.drewN k := by
  obtain ⟨c0, c1, hz⟩ := h.cells
  have HA := Lib.hid (hahead_any wb 1 hd now w c1 h0 hx hn)
  obtain ⟨r, hr⟩ : ∃ r, r = max (now - hd) 0 := ⟨_, rfl⟩
  rw [← hr] at HA ⊢
  clear h c0 hz hr h0 hx hn
  go_enter Try.func19, Try.ntmps19
  go_wp2_with fail
  refine HA.out.mono ?_
  rintro e w1 ⟨rfl, k, rfl⟩
  go_wp2_with fail
  go_ret
  exact ⟨rfl, k, rfl⟩
theorem WhI.more {w0 w : World} {wb : Nat} {g : Gh} {st : St} {n m : Nat} {hd : Int} {L : List Nat} (h : WhI w0 w wb g st n hd L) (hm : n ≤ m) : WhI w0 w wb g st m hd L :=
  ⟨h.disk, h.chg, h.glow, h.ease.more hm, h.cell, h.low, h.out, h.file, h.len, h.ok⟩
end Go.Proofs.Ytkbgococmkcjaaa
