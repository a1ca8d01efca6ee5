/-
  CqApart: for every input the law returns true, and each argument reads afterwards as it read before. No condition; the listed variables are tied by the card to the program's text.
-/
import Derived.Test.YthfjgpchbbbjiaaGreatDoorAp1
import Derived.Test.YthfjgpchbbbjiaaGreatDoorAp2
import Derived.Test.YthfjgpchbbbjiaaGreatDoorAp3
import Derived.Test.YthfjgpchbbbjiaaGreatDoorAp4
import Derived.Test.YthfjgpchbbbjiaaGreatDoorAp5
import Derived.Test.YthfjgpchbbbjiaaGreatDoorAp6
import Derived.Test.YthfjgpchbbbjiaaGreatDoorAp7
import Derived.Test.YthfjgpchbbbjiaaGreatDoorAp8
import Derived.Test.YthfjgpchbbbjiaaGreatDoorAp9
import Derived.Test.YthfjgpchbbbjiaaGreatDoorAp10
import Derived.Test.YthfjgpchbbbjiaaGreatDoorAp11
import Derived.Test.YthfjgpchbbbjiaaGreatDoorAp12
import Derived.Test.YthfjgpchbbbjiaaGreatDoorAp13
import Derived.Test.YthfjgpchbbbjiaaGreatDoorAp14
import Derived.Test.YthfjgpchbbbjiaaGreatDoorAp15
import Derived.Test.YthfjgpchbbbjiaaGreatDoorAp16
import Derived.Test.YthfjgpchbbbjiaaGreatDoorAp17
import Derived.Test.YthfjgpchbbbjiaaGreatDoorAp18
import Derived.Test.YthfjgpchbbbjiaaGreatDoorAp19
import Derived.Test.YthfjgpchbbbjiaaGreatDoorAp20
import Derived.Test.YthfjgpchbbbjiaaGreatDoorAp21
import Derived.Test.YthfjgpchbbbjiaaGreatDoorAp22
import Derived.Test.YthfjgpchbbbjiaaGreatDoorAp23
import Derived.Test.YthfjgpchbbbjiaaGreatDoorAp24
import Derived.Test.YthfjgpchbbbjiaaGreatDoorAp25
import Derived.Test.YthfjgpchbbbjiaaGreatDoorAp26
import Derived.Test.YthfjgpchbbbjiaaGreatDoorAp27
import Derived.Test.YthfjgpchbbbjiaaGreatDoorAp28
import Derived.Test.YthfjgpchbbbjiaaGreatDoorAp29
import Derived.Test.YthfjgpchbbbjiaaGreatDoorAp30
import Derived.Test.YthfjgpchbbbjiaaGreatDoorAp31
import Derived.Test.YthfjgpchbbbjiaaGreatDoorAp32
import Derived.Test.YthfjgpchbbbjiaaGreatDoorAp33
import Derived.Test.YthfjgpchbbbjiaaGreatDoorCards
import Derived.Test.YthfjgpchbbbjiaaGreatDoorTie
import Derived.ProofKit
import Derived.LaidMore
import Derived.OpenShut
import Derived.Stop.Joined
import Derived.SevenTiedAt
import Derived.ShutString
import Derived.ChangeOld
import Derived.Lib.LaidTab
namespace Go.Proofs.YthfjgpchbbbjiaaGreatDoor.cqApartFrame
open Go.ChangeShapes Go.WideShapes Go.ChangeAt Go.RowKit
open Go.ChangeMaps (open_string shut_string)
set_option linter.unusedVariables false

theorem own : ownKnob Tryz.prog.godebug = none := by kernel_rfl
theorem laidOut : laidOutB Tryz.prog = true := by kernel_rfl

/-- The door's own heap meets the condition. -/
theorem door_met (os : Os) (args : Array Value) : laidMetH Tryz.prog Rows.cqApartRow.laid ((World.doorLaid Tryz.prog 400 os).forCall (fun _ _ => 0) ⟨#[], args, []⟩).memory :=
  laidMetH_of_parts3 (fuel := 8) (laidMet_of_run' 8 (by kernel_rfl) (by kernel_rfl)) (by kernel_rfl) (by kernel_rfl)

set_option maxRecDepth 100000 in
theorem lifted (os : Os) (started : os.Started) (H : Type) (enc : TypeId × Value → H) :
    ReturnsInHanded {} Tryz.checked os 5 .any (fun w args => (Rows.cqApartSpec.pre enc Tryz.prog Tryz.f5 [] false w args ∧ laidMetH Tryz.prog Rows.cqApartRow.laid w) ∧ sizedMet enc Tryz.prog Tryz.f5 (OpenSpec.ofChange Rows.cqApartSpec) false w args)
      (Rows.cqApartSpec.post enc Tryz.prog Tryz.f5 false true false false) := by
  refine returnsInHanded_of_change_and (C := Tryz.checked) (X := fun w _ => laidMetH Tryz.prog Rows.cqApartRow.laid w) (fun _ _ _ hh h => h.of_heap hh) own started (by kernel_rfl) Tryz.func5
    (ChangeSpec.witness_shaped (enc := enc) (C := Tryz.checked) (os := os) (X := fun w _ => laidMetH Tryz.prog Rows.cqApartRow.laid w) false (World.doorLaid Tryz.prog 400 os) #[.agg #[.int .u8 0, .int .u8 0], .int .i64 0] 8 rfl (World.shaped_of_RefB (by kernel_rfl) (by kernel_rfl)) (by kernel_rfl) (by kernel_rfl) (by kernel_rfl) (door_met os _)) ?_
  intro W base args ds gs before hval0 hW _ hsz0 hL _
  have hval : ∀ (j : Nat) t v, Tryz.f5.params[j]? = some t → args[j]? = some v → Value.okWide Tryz.prog W .any base t v := hval0
  have hW' := hW
  obtain ⟨p, q, hA0, hV, rfl, hfz, hnd⟩ := hW
  have hA : DataW.TrodAll enc Tryz.prog W 0 (fun _ => true) true Tryz.f5.params.toList args.toList ds p := hA0
  rw [Tryz.params5] at hA hval
  obtain ⟨v0, vs0, d0, ds0, p0, q0, hargs, rfl, rfl, h0, r0⟩ := trodAll_cons hA
  obtain ⟨v1, vs1, d1, ds1, p1, q1, rfl, rfl, rfl, h1, r1⟩ := trodAll_cons r0
  obtain ⟨rfl, rfl, rfl⟩ := trodAll_nil r1
  obtain rfl : args = #[v0, v1] := by cases args; simp_all
  obtain ⟨rfl, rfl⟩ := trodVars_none hV
  have k0 := h0
  have lt0 : ∀ x ∈ p0, x.block < W.heap.size := by obtain ⟨m, hm⟩ := k0; exact DataW.trod_lt m _ _ _ hm
  obtain ⟨b0_0, b0_1, rfl, w0_0, w0_1⟩ := open_two8 (hval 0 59 v0 rfl rfl) h0
  obtain ⟨a1, rfl, rfl, rfl, w1⟩ := open_int Tryz.underlying3 (hval 1 3 v1 rfl rfl) h1
  clear hA0 hval0
  refine (walkF_CqApart b0_0 b0_1 a1 W (tab_of_laid hL) w0_0 w0_1 w1).mono fun e W' ⟨he, bel⟩ => ?_
  subst he
  exact ⟨_, rfl, _, _, _, [], _, [], hW', trodAll_mk1 (shut_bool Tryz.underlying4 _), (trodAll_cons_mk (Below.trod laidOut (by kernel_rfl) (of_decide_eq_true (by kernel_rfl)) k0 bel lt0) (trodAll_cons_mk (shut_int Tryz.underlying3 w1) trodAll_mk0)), rfl, bel.frame _, fun h => by cases h⟩

theorem over : Rows.CqApartSaid :=
  OpenClaim.holds_of_wide 5 Tryz.f5 rfl rfl rfl rfl rfl rfl rfl ⟨rfl, rfl, rfl, rfl, rfl⟩ rfl rfl rfl rfl rfl (by kernel_rfl) Tryz.func5 (by kernel_rfl)
    (of_decide_eq_true (by kernel_rfl)) (by unfold Func.isWrapper; first | (rw [if_pos (by decide +kernel)]; kernel_rfl) | (rw [if_neg (by decide +kernel)]; exact ⟨rfl, rfl⟩))
    (fun os started H enc _ => lifted os started H enc)
end Go.Proofs.YthfjgpchbbbjiaaGreatDoor.cqApartFrame

namespace Go.Proofs.YthfjgpchbbbjiaaGreatDoor
/-- The statement: the tied card. -/
theorem cqApart_holds : Rows.CqApartCardSaid :=
  Claim7.holds_tied_plain_at .later [] _ _ _ _ cqApartFrame.over (fun _ h => by cases h) (by kernel_rfl) (fun _ h => by cases h) cqApart_row_tie rfl ⟨rfl, rfl⟩ (by kernel_rfl) rfl
    (fun f fn hf hfn => by
      obtain rfl : f = 5 := Option.some.inj ((show Tryz.prog.funcNamed Rows.cqApartRow.func = some 5 by kernel_rfl).symm.trans hf) |>.symm
      obtain rfl : fn = Tryz.f5 := (Option.some.inj (Tryz.func5.symm.trans hfn)).symm
      exact ⟨by kernel_rfl, fun j t ht => by
        rw [Tryz.params5] at ht
        have hm : t ∈ [59, 3] := by simpa using Array.mem_of_getElem? ht
        have hall : ([59, 3].all fun u => !Tryz.prog.wantsStandIn u) = true := by kernel_rfl
        exact (show Tryz.prog.wantsStandIn t = false by simpa using List.all_eq_true.1 hall t hm)⟩)
    (by kernel_rfl)
#print axioms cqApart_holds
end Go.Proofs.YthfjgpchbbbjiaaGreatDoor
