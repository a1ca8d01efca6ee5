/-
  CqPlays: for every input the law returns true, and each argument reads afterwards as it read before. No condition; the listed variables are tied by the card to the program's text.
-/
import Derived.Test.YtmhojpipmllphaaGreatDoorQpl1
import Derived.Test.YtmhojpipmllphaaGreatDoorQpl2
import Derived.Test.YtmhojpipmllphaaGreatDoorQpl3
import Derived.Test.YtmhojpipmllphaaGreatDoorQpl4
import Derived.Test.YtmhojpipmllphaaGreatDoorQpl5
import Derived.Test.YtmhojpipmllphaaGreatDoorQpl6
import Derived.Test.YtmhojpipmllphaaGreatDoorQpl7
import Derived.Test.YtmhojpipmllphaaGreatDoorQpl8
import Derived.Test.YtmhojpipmllphaaGreatDoorQpl9
import Derived.Test.YtmhojpipmllphaaGreatDoorQpl10
import Derived.Test.YtmhojpipmllphaaGreatDoorQpl11
import Derived.Test.YtmhojpipmllphaaGreatDoorQpl12
import Derived.Test.YtmhojpipmllphaaGreatDoorQpl13
import Derived.Test.YtmhojpipmllphaaGreatDoorQpl14
import Derived.Test.YtmhojpipmllphaaGreatDoorQpl15
import Derived.Test.YtmhojpipmllphaaGreatDoorQpl16
import Derived.Test.YtmhojpipmllphaaGreatDoorQpl17
import Derived.Test.YtmhojpipmllphaaGreatDoorQpl18
import Derived.Test.YtmhojpipmllphaaGreatDoorQpl19
import Derived.Test.YtmhojpipmllphaaGreatDoorQpl20
import Derived.Test.YtmhojpipmllphaaGreatDoorQpl21
import Derived.Test.YtmhojpipmllphaaGreatDoorQpl22
import Derived.Test.YtmhojpipmllphaaGreatDoorQpl23
import Derived.Test.YtmhojpipmllphaaGreatDoorQpl24
import Derived.Test.YtmhojpipmllphaaGreatDoorQpl25
import Derived.Test.YtmhojpipmllphaaGreatDoorQpl26
import Derived.Test.YtmhojpipmllphaaGreatDoorQpl27
import Derived.Test.YtmhojpipmllphaaGreatDoorQpl28
import Derived.Test.YtmhojpipmllphaaGreatDoorQpl29
import Derived.Test.YtmhojpipmllphaaGreatDoorQpl30
import Derived.Test.YtmhojpipmllphaaGreatDoorQpl31
import Derived.Test.YtmhojpipmllphaaGreatDoorQpl32
import Derived.Test.YtmhojpipmllphaaGreatDoorQpl33
import Derived.Test.YtmhojpipmllphaaGreatDoorQpl34
import Derived.Test.YtmhojpipmllphaaGreatDoorQpl35
import Derived.Test.YtmhojpipmllphaaGreatDoorQpl36
import Derived.Test.YtmhojpipmllphaaGreatDoorQpl37
import Derived.Test.YtmhojpipmllphaaGreatDoorQpl38
import Derived.Test.YtmhojpipmllphaaGreatDoorQpl39
import Derived.Test.YtmhojpipmllphaaGreatDoorQpl40
import Derived.Test.YtmhojpipmllphaaGreatDoorQpl41
import Derived.Test.YtmhojpipmllphaaGreatDoorQpl42
import Derived.Test.YtmhojpipmllphaaGreatDoorCards
import Derived.Test.YtmhojpipmllphaaGreatDoorTie
import Derived.ProofKit
import Derived.LaidMore
import Derived.OpenShut
import Derived.Stop.Joined
import Derived.SevenTiedAt
import Derived.ShutString
import Derived.ChangeOld
import Derived.Lib.LaidTab
namespace Go.Proofs.YtmhojpipmllphaaGreatDoor.cqPlaysFrame
open Go.ChangeShapes Go.WideShapes Go.ChangeAt Go.RowKit
open Go.ChangeMaps (open_string shut_string)
set_option linter.unusedVariables false

theorem own : ownKnob Tryz.prog.godebug = none := by kernel_rfl
theorem laidOut : laidOutB Tryz.prog = true := by kernel_rfl

/-- The door's own heap meets the condition. -/
theorem door_met (os : Os) (args : Array Value) : laidMetH Tryz.prog Rows.cqPlaysRow.laid ((World.doorLaid Tryz.prog 400 os).forCall (fun _ _ => 0) ⟨#[], args, []⟩).memory :=
  laidMetH_of_parts3 (fuel := 8) (laidMet_of_run' 8 (by kernel_rfl) (by kernel_rfl)) (by kernel_rfl) (by kernel_rfl)

set_option maxRecDepth 100000 in
theorem lifted (os : Os) (started : os.Started) (H : Type) (enc : TypeId × Value → H) :
    ReturnsInHanded {} Tryz.checked os 3 .any (fun w args => (Rows.cqPlaysSpec.pre enc Tryz.prog Tryz.f3 [] false w args ∧ laidMetH Tryz.prog Rows.cqPlaysRow.laid w) ∧ sizedMet enc Tryz.prog Tryz.f3 (OpenSpec.ofChange Rows.cqPlaysSpec) false w args)
      (Rows.cqPlaysSpec.post enc Tryz.prog Tryz.f3 false true false false) := by
  refine returnsInHanded_of_change_and (C := Tryz.checked) (X := fun w _ => laidMetH Tryz.prog Rows.cqPlaysRow.laid w) (fun _ _ _ hh h => h.of_heap hh) own started (by kernel_rfl) Tryz.func3
    (ChangeSpec.witness_shaped (enc := enc) (C := Tryz.checked) (os := os) (X := fun w _ => laidMetH Tryz.prog Rows.cqPlaysRow.laid w) false (World.doorLaid Tryz.prog 400 os) #[.slice none 0 0] 8 rfl (World.shaped_of_RefB (by kernel_rfl) (by kernel_rfl)) (by kernel_rfl) (by kernel_rfl) (by kernel_rfl) (door_met os _)) ?_
  intro W base args ds gs before hval0 hW _ hsz0 hL _
  have hval : ∀ (j : Nat) t v, Tryz.f3.params[j]? = some t → args[j]? = some v → Value.okWide Tryz.prog W .any base t v := hval0
  have hW' := hW
  obtain ⟨p, q, hA0, hV, rfl, hfz, hnd⟩ := hW
  have hA : DataW.TrodAll enc Tryz.prog W 0 (fun _ => true) true Tryz.f3.params.toList args.toList ds p := hA0
  rw [Tryz.params3] at hA hval
  obtain ⟨v0, vs0, d0, ds0, p0, q0, hargs, rfl, rfl, h0, r0⟩ := trodAll_cons hA
  obtain ⟨rfl, rfl, rfl⟩ := trodAll_nil r0
  obtain rfl : args = #[v0] := by cases args; simp_all
  obtain ⟨rfl, rfl⟩ := trodVars_none hV
  have k0 := h0
  have lt0 : ∀ x ∈ p0, x.block < W.heap.size := by obtain ⟨m, hm⟩ := k0; exact DataW.trod_lt m _ _ _ hm
  obtain ⟨la0, len0, cap0, rfl⟩ := okWide_slice Tryz.underlying22 (hval 0 22 v0 rfl rfl)
  obtain ⟨fu0, hf0⟩ := id h0
  obtain ⟨z0, s0, m0, r0'⟩ := open_opsq hf0
  clear hA0 hval0
  refine (walkF_CqPlays (.slice la0 len0 cap0) z0 W (tab_of_laid hL) s0 m0 r0').mono fun e W' ⟨he, bel⟩ => ?_
  subst he
  exact ⟨_, rfl, _, _, _, [], _, [], hW', trodAll_mk1 (shut_bool Tryz.underlying4 _), (trodAll_cons_mk (Below.trod laidOut (by kernel_rfl) (of_decide_eq_true (by kernel_rfl)) k0 bel lt0) trodAll_mk0), rfl, bel.frame _, fun h => by cases h⟩

theorem over : Rows.CqPlaysSaid :=
  OpenClaim.holds_of_wide 3 Tryz.f3 rfl rfl rfl rfl rfl rfl rfl ⟨rfl, rfl, rfl, rfl, rfl⟩ rfl rfl rfl rfl rfl (by kernel_rfl) Tryz.func3 (by kernel_rfl)
    (of_decide_eq_true (by kernel_rfl)) (by unfold Func.isWrapper; first | (rw [if_pos (by decide +kernel)]; kernel_rfl) | (rw [if_neg (by decide +kernel)]; exact ⟨rfl, rfl⟩))
    (fun os started H enc _ => lifted os started H enc)
end Go.Proofs.YtmhojpipmllphaaGreatDoor.cqPlaysFrame

namespace Go.Proofs.YtmhojpipmllphaaGreatDoor
/-- The statement: the tied card. -/
theorem cqPlays_holds : Rows.CqPlaysCardSaid :=
  Claim7.holds_tied_plain_at .later [] _ _ _ _ cqPlaysFrame.over (fun _ h => by cases h) (by kernel_rfl) (fun _ h => by cases h) cqPlays_row_tie rfl ⟨rfl, rfl⟩ (by kernel_rfl) rfl
    (fun f fn hf hfn => by
      obtain rfl : f = 3 := Option.some.inj ((show Tryz.prog.funcNamed Rows.cqPlaysRow.func = some 3 by kernel_rfl).symm.trans hf) |>.symm
      obtain rfl : fn = Tryz.f3 := (Option.some.inj (Tryz.func3.symm.trans hfn)).symm
      exact ⟨by kernel_rfl, fun j t ht => by
        rw [Tryz.params3] at ht
        have hm : t ∈ [22] := by simpa using Array.mem_of_getElem? ht
        have hall : ([22].all fun u => !Tryz.prog.wantsStandIn u) = true := by kernel_rfl
        exact (show Tryz.prog.wantsStandIn t = false by simpa using List.all_eq_true.1 hall t hm)⟩)
    (by kernel_rfl)
#print axioms cqPlays_holds
end Go.Proofs.YtmhojpipmllphaaGreatDoor
