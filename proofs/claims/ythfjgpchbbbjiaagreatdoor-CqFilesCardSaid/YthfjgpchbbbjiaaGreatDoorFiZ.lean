/-
  CqFiles: for every input the law returns true, and each argument reads afterwards as it read before. No condition; the listed variables are tied by the card to the program's text.
-/
import Derived.Test.YthfjgpchbbbjiaaGreatDoorFi1
import Derived.Test.YthfjgpchbbbjiaaGreatDoorFi2
import Derived.Test.YthfjgpchbbbjiaaGreatDoorFi3
import Derived.Test.YthfjgpchbbbjiaaGreatDoorFi4
import Derived.Test.YthfjgpchbbbjiaaGreatDoorFi5
import Derived.Test.YthfjgpchbbbjiaaGreatDoorFi6
import Derived.Test.YthfjgpchbbbjiaaGreatDoorFi7
import Derived.Test.YthfjgpchbbbjiaaGreatDoorFi8
import Derived.Test.YthfjgpchbbbjiaaGreatDoorFi9
import Derived.Test.YthfjgpchbbbjiaaGreatDoorFi10
import Derived.Test.YthfjgpchbbbjiaaGreatDoorFi11
import Derived.Test.YthfjgpchbbbjiaaGreatDoorFi12
import Derived.Test.YthfjgpchbbbjiaaGreatDoorFi13
import Derived.Test.YthfjgpchbbbjiaaGreatDoorFi14
import Derived.Test.YthfjgpchbbbjiaaGreatDoorFi15
import Derived.Test.YthfjgpchbbbjiaaGreatDoorFi16
import Derived.Test.YthfjgpchbbbjiaaGreatDoorFi17
import Derived.Test.YthfjgpchbbbjiaaGreatDoorFi18
import Derived.Test.YthfjgpchbbbjiaaGreatDoorFi19
import Derived.Test.YthfjgpchbbbjiaaGreatDoorFi20
import Derived.Test.YthfjgpchbbbjiaaGreatDoorFi21
import Derived.Test.YthfjgpchbbbjiaaGreatDoorFi22
import Derived.Test.YthfjgpchbbbjiaaGreatDoorFi23
import Derived.Test.YthfjgpchbbbjiaaGreatDoorFi24
import Derived.Test.YthfjgpchbbbjiaaGreatDoorFi25
import Derived.Test.YthfjgpchbbbjiaaGreatDoorFi26
import Derived.Test.YthfjgpchbbbjiaaGreatDoorFi27
import Derived.Test.YthfjgpchbbbjiaaGreatDoorFi28
import Derived.Test.YthfjgpchbbbjiaaGreatDoorFi29
import Derived.Test.YthfjgpchbbbjiaaGreatDoorFi30
import Derived.Test.YthfjgpchbbbjiaaGreatDoorFi31
import Derived.Test.YthfjgpchbbbjiaaGreatDoorFi32
import Derived.Test.YthfjgpchbbbjiaaGreatDoorFi33
import Derived.Test.YthfjgpchbbbjiaaGreatDoorFi34
import Derived.Test.YthfjgpchbbbjiaaGreatDoorFi35
import Derived.Test.YthfjgpchbbbjiaaGreatDoorCards
import Derived.Test.YthfjgpchbbbjiaaGreatDoorTie
import Derived.ProofKit
import Derived.LaidMore
import Derived.OpenShut
import Derived.Stop.Joined
import Derived.SevenTiedAt
import Derived.ShutString
import Derived.ChangeOld
import Derived.Lib.LaidTab
namespace Go.Proofs.YthfjgpchbbbjiaaGreatDoor.cqFilesFrame
open Go.ChangeShapes Go.WideShapes Go.ChangeAt Go.RowKit
open Go.ChangeMaps (open_string shut_string)
set_option linter.unusedVariables false

theorem own : ownKnob Tryz.prog.godebug = none := by kernel_rfl
theorem laidOut : laidOutB Tryz.prog = true := by kernel_rfl

/-- The door's own heap meets the condition. -/
theorem door_met (os : Os) (args : Array Value) : laidMetH Tryz.prog Rows.cqFilesRow.laid ((World.doorLaid Tryz.prog 400 os).forCall (fun _ _ => 0) ⟨#[], args, []⟩).memory :=
  laidMetH_of_parts3 (fuel := 8) (laidMet_of_run' 8 (by kernel_rfl) (by kernel_rfl)) (by kernel_rfl) (by kernel_rfl)

set_option maxRecDepth 100000 in
theorem lifted (os : Os) (started : os.Started) (H : Type) (enc : TypeId × Value → H) :
    ReturnsInHanded {} Tryz.checked os 4 .any (fun w args => (Rows.cqFilesSpec.pre enc Tryz.prog Tryz.f4 [] false w args ∧ laidMetH Tryz.prog Rows.cqFilesRow.laid w) ∧ sizedMet enc Tryz.prog Tryz.f4 (OpenSpec.ofChange Rows.cqFilesSpec) false w args)
      (Rows.cqFilesSpec.post enc Tryz.prog Tryz.f4 false true false false) := by
  refine returnsInHanded_of_change_and (C := Tryz.checked) (X := fun w _ => laidMetH Tryz.prog Rows.cqFilesRow.laid w) (fun _ _ _ hh h => h.of_heap hh) own started (by kernel_rfl) Tryz.func4
    (ChangeSpec.witness_shaped (enc := enc) (C := Tryz.checked) (os := os) (X := fun w _ => laidMetH Tryz.prog Rows.cqFilesRow.laid w) false (World.doorLaid Tryz.prog 400 os) #[.int .u8 0, .int .u8 0] 8 rfl (World.shaped_of_RefB (by kernel_rfl) (by kernel_rfl)) (by kernel_rfl) (by kernel_rfl) (by kernel_rfl) (door_met os _)) ?_
  intro W base args ds gs before hval0 hW _ hsz0 hL _
  have hval : ∀ (j : Nat) t v, Tryz.f4.params[j]? = some t → args[j]? = some v → Value.okWide Tryz.prog W .any base t v := hval0
  have hW' := hW
  obtain ⟨p, q, hA0, hV, rfl, hfz, hnd⟩ := hW
  have hA : DataW.TrodAll enc Tryz.prog W 0 (fun _ => true) true Tryz.f4.params.toList args.toList ds p := hA0
  rw [Tryz.params4] at hA hval
  obtain ⟨v0, vs0, d0, ds0, p0, q0, hargs, rfl, rfl, h0, r0⟩ := trodAll_cons hA
  obtain ⟨v1, vs1, d1, ds1, p1, q1, rfl, rfl, rfl, h1, r1⟩ := trodAll_cons r0
  obtain ⟨rfl, rfl, rfl⟩ := trodAll_nil r1
  obtain rfl : args = #[v0, v1] := by cases args; simp_all
  obtain ⟨rfl, rfl⟩ := trodVars_none hV
  obtain ⟨a0, rfl, rfl, rfl, w0⟩ := open_int Tryz.underlying5 (hval 0 5 v0 rfl rfl) h0
  obtain ⟨a1, rfl, rfl, rfl, w1⟩ := open_int Tryz.underlying5 (hval 1 5 v1 rfl rfl) h1
  clear hA0 hval0
  refine (walkF_CqFiles a0 a1 W (tab_of_laid hL) w0 w1).mono fun e W' ⟨he, bel⟩ => ?_
  subst he
  exact ⟨_, rfl, _, _, _, [], _, [], hW', trodAll_mk1 (shut_bool Tryz.underlying4 _), (trodAll_cons_mk (shut_int Tryz.underlying5 w0) (trodAll_cons_mk (shut_int Tryz.underlying5 w1) trodAll_mk0)), rfl, bel.frame _, fun h => by cases h⟩

theorem over : Rows.CqFilesSaid :=
  OpenClaim.holds_of_wide 4 Tryz.f4 rfl rfl rfl rfl rfl rfl rfl ⟨rfl, rfl, rfl, rfl, rfl⟩ rfl rfl rfl rfl rfl (by kernel_rfl) Tryz.func4 (by kernel_rfl)
    (of_decide_eq_true (by kernel_rfl)) (by unfold Func.isWrapper; first | (rw [if_pos (by decide +kernel)]; kernel_rfl) | (rw [if_neg (by decide +kernel)]; exact ⟨rfl, rfl⟩))
    (fun os started H enc _ => lifted os started H enc)
end Go.Proofs.YthfjgpchbbbjiaaGreatDoor.cqFilesFrame

namespace Go.Proofs.YthfjgpchbbbjiaaGreatDoor
/-- The statement: the tied card. -/
theorem cqFiles_holds : Rows.CqFilesCardSaid :=
  Claim7.holds_tied_plain_at .later [] _ _ _ _ cqFilesFrame.over (fun _ h => by cases h) (by kernel_rfl) (fun _ h => by cases h) cqFiles_row_tie rfl ⟨rfl, rfl⟩ (by kernel_rfl) rfl
    (fun f fn hf hfn => by
      obtain rfl : f = 4 := Option.some.inj ((show Tryz.prog.funcNamed Rows.cqFilesRow.func = some 4 by kernel_rfl).symm.trans hf) |>.symm
      obtain rfl : fn = Tryz.f4 := (Option.some.inj (Tryz.func4.symm.trans hfn)).symm
      exact ⟨by kernel_rfl, fun j t ht => by
        rw [Tryz.params4] at ht
        have hm : t ∈ [5, 5] := by simpa using Array.mem_of_getElem? ht
        have hall : ([5, 5].all fun u => !Tryz.prog.wantsStandIn u) = true := by kernel_rfl
        exact (show Tryz.prog.wantsStandIn t = false by simpa using List.all_eq_true.1 hall t hm)⟩)
    (by kernel_rfl)
#print axioms cqFiles_holds
end Go.Proofs.YthfjgpchbbbjiaaGreatDoor
