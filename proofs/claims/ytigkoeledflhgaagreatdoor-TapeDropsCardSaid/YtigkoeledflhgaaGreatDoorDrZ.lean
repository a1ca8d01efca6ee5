/-
  TapeDrops: for every input the law returns true, and each argument reads afterwards as it read before. No condition; the listed variables are tied by the card to the program's text.
-/
import Derived.Test.YtigkoeledflhgaaGreatDoorDr1
import Derived.Test.YtigkoeledflhgaaGreatDoorDr2
import Derived.Test.YtigkoeledflhgaaGreatDoorDr3
import Derived.Test.YtigkoeledflhgaaGreatDoorDr4
import Derived.Test.YtigkoeledflhgaaGreatDoorDr5
import Derived.Test.YtigkoeledflhgaaGreatDoorDr6
import Derived.Test.YtigkoeledflhgaaGreatDoorDr7
import Derived.Test.YtigkoeledflhgaaGreatDoorDr8
import Derived.Test.YtigkoeledflhgaaGreatDoorDr9
import Derived.Test.YtigkoeledflhgaaGreatDoorDr10
import Derived.Test.YtigkoeledflhgaaGreatDoorDr11
import Derived.Test.YtigkoeledflhgaaGreatDoorDr12
import Derived.Test.YtigkoeledflhgaaGreatDoorDr13
import Derived.Test.YtigkoeledflhgaaGreatDoorDr14
import Derived.Test.YtigkoeledflhgaaGreatDoorDr15
import Derived.Test.YtigkoeledflhgaaGreatDoorDr16
import Derived.Test.YtigkoeledflhgaaGreatDoorDr17
import Derived.Test.YtigkoeledflhgaaGreatDoorDr18
import Derived.Test.YtigkoeledflhgaaGreatDoorDr19
import Derived.Test.YtigkoeledflhgaaGreatDoorDr20
import Derived.Test.YtigkoeledflhgaaGreatDoorDr21
import Derived.Test.YtigkoeledflhgaaGreatDoorDr22
import Derived.Test.YtigkoeledflhgaaGreatDoorDr23
import Derived.Test.YtigkoeledflhgaaGreatDoorDr24
import Derived.Test.YtigkoeledflhgaaGreatDoorDr25
import Derived.Test.YtigkoeledflhgaaGreatDoorDr26
import Derived.Test.YtigkoeledflhgaaGreatDoorDr27
import Derived.Test.YtigkoeledflhgaaGreatDoorDr28
import Derived.Test.YtigkoeledflhgaaGreatDoorDr29
import Derived.Test.YtigkoeledflhgaaGreatDoorDr30
import Derived.Test.YtigkoeledflhgaaGreatDoorDr31
import Derived.Test.YtigkoeledflhgaaGreatDoorDr32
import Derived.Test.YtigkoeledflhgaaGreatDoorDr33
import Derived.Test.YtigkoeledflhgaaGreatDoorDr34
import Derived.Test.YtigkoeledflhgaaGreatDoorDr35
import Derived.Test.YtigkoeledflhgaaGreatDoorDr36
import Derived.Test.YtigkoeledflhgaaGreatDoorDr37
import Derived.Test.YtigkoeledflhgaaGreatDoorDr38
import Derived.Test.YtigkoeledflhgaaGreatDoorDr39
import Derived.Test.YtigkoeledflhgaaGreatDoorDr40
import Derived.Test.YtigkoeledflhgaaGreatDoorDr41
import Derived.Test.YtigkoeledflhgaaGreatDoorDr42
import Derived.Test.YtigkoeledflhgaaGreatDoorDr43
import Derived.Test.YtigkoeledflhgaaGreatDoorDr44
import Derived.Test.YtigkoeledflhgaaGreatDoorCards
import Derived.Test.YtigkoeledflhgaaGreatDoorTie
import Derived.ProofKit
import Derived.LaidMore
import Derived.OpenShut
import Derived.Stop.Joined
import Derived.SevenTiedAt
import Derived.ShutString
import Derived.ChangeOld
import Derived.Lib.LaidTab
namespace Go.Proofs.YtigkoeledflhgaaGreatDoor.tapeDropsFrame
open Go.ChangeShapes Go.WideShapes Go.ChangeAt Go.RowKit
open Go.ChangeMaps (open_string shut_string)
set_option linter.unusedVariables false

theorem own : ownKnob Tryz.prog.godebug = none := by kernel_rfl
theorem laidOut : laidOutB Tryz.prog = true := by kernel_rfl

/-- The door's own heap meets the condition. -/
theorem door_met (os : Os) (args : Array Value) : laidMetH Tryz.prog Rows.tapeDropsRow.laid ((World.doorLaid Tryz.prog 400 os).forCall (fun _ _ => 0) ⟨#[], args, []⟩).memory :=
  laidMetH_of_parts3 (fuel := 8) (laidMet_of_run' 8 (by kernel_rfl) (by kernel_rfl)) (by kernel_rfl) (by kernel_rfl)

set_option maxRecDepth 100000 in
theorem lifted (os : Os) (started : os.Started) (H : Type) (enc : TypeId × Value → H) :
    ReturnsInHanded {} Tryz.checked os 5 .any (fun w args => (Rows.tapeDropsSpec.pre enc Tryz.prog Tryz.f5 [] false w args ∧ laidMetH Tryz.prog Rows.tapeDropsRow.laid w) ∧ sizedMet enc Tryz.prog Tryz.f5 (OpenSpec.ofChange Rows.tapeDropsSpec) false w args)
      (Rows.tapeDropsSpec.post enc Tryz.prog Tryz.f5 false true false false) := by
  refine returnsInHanded_of_change_and (C := Tryz.checked) (X := fun w _ => laidMetH Tryz.prog Rows.tapeDropsRow.laid w) (fun _ _ _ hh h => h.of_heap hh) own started (by kernel_rfl) Tryz.func5
    (ChangeSpec.witness_shaped (enc := enc) (C := Tryz.checked) (os := os) (X := fun w _ => laidMetH Tryz.prog Rows.tapeDropsRow.laid w) false (World.doorLaid Tryz.prog 400 os) #[.slice none 0 0, .bool false] 8 rfl (World.shaped_of_RefB (by kernel_rfl) (by kernel_rfl)) (by kernel_rfl) (by kernel_rfl) (by kernel_rfl) (door_met os _)) ?_
  intro W base args ds gs before hval0 hW _ hsz0 hL _
  have hval : ∀ (j : Nat) t v, Tryz.f5.params[j]? = some t → args[j]? = some v → Value.okWide Tryz.prog W .any base t v := hval0
  have hW' := hW
  obtain ⟨p, q, hA0, hV, rfl, hfz, hnd⟩ := hW
  have hA : DataW.TrodAll enc Tryz.prog W 0 (fun _ => true) true Tryz.f5.params.toList args.toList ds p := hA0
  rw [Tryz.params5] at hA hval
  obtain ⟨v0, vs0, d0, ds0, p0, q0, hargs, rfl, rfl, h0, r0⟩ := trodAll_cons hA
  obtain ⟨v1, vs1, d1, ds1, p1, q1, rfl, rfl, rfl, h1, r1⟩ := trodAll_cons r0
  obtain ⟨rfl, rfl, rfl⟩ := trodAll_nil r1
  obtain rfl : args = #[v0, v1] := by cases args; simp_all
  obtain ⟨rfl, rfl⟩ := trodVars_none hV
  have k0 := h0
  have lt0 : ∀ x ∈ p0, x.block < W.heap.size := by obtain ⟨m, hm⟩ := k0; exact DataW.trod_lt m _ _ _ hm
  obtain ⟨la0, len0, cap0, rfl⟩ := okWide_slice Tryz.underlying33 (hval 0 33 v0 rfl rfl)
  obtain ⟨fu0, hf0⟩ := id h0
  obtain ⟨z0, s0, m0, r0'⟩ := open_msgs hf0
  obtain ⟨a1, rfl, rfl, rfl⟩ := open_bool Tryz.underlying4 (hval 1 4 v1 rfl rfl) h1
  clear hA0 hval0
  refine (walkF_TapeDrops (.slice la0 len0 cap0) z0 a1 W (tab_of_laid hL) s0 m0 r0').mono fun e W' ⟨he, bel⟩ => ?_
  subst he
  exact ⟨_, rfl, _, _, _, [], _, [], hW', trodAll_mk1 (shut_bool Tryz.underlying4 _), (trodAll_cons_mk (Below.trod laidOut (by kernel_rfl) (of_decide_eq_true (by kernel_rfl)) k0 bel lt0) (trodAll_cons_mk (shut_bool Tryz.underlying4 _) trodAll_mk0)), rfl, bel.frame _, fun h => by cases h⟩

theorem over : Rows.TapeDropsSaid :=
  OpenClaim.holds_of_wide 5 Tryz.f5 rfl rfl rfl rfl rfl rfl rfl ⟨rfl, rfl, rfl, rfl, rfl⟩ rfl rfl rfl rfl rfl (by kernel_rfl) Tryz.func5 (by kernel_rfl)
    (of_decide_eq_true (by kernel_rfl)) (by unfold Func.isWrapper; first | (rw [if_pos (by decide +kernel)]; kernel_rfl) | (rw [if_neg (by decide +kernel)]; exact ⟨rfl, rfl⟩))
    (fun os started H enc _ => lifted os started H enc)
end Go.Proofs.YtigkoeledflhgaaGreatDoor.tapeDropsFrame

namespace Go.Proofs.YtigkoeledflhgaaGreatDoor
/-- The statement: the tied card. -/
theorem tapeDrops_holds : Rows.TapeDropsCardSaid :=
  Claim7.holds_tied_plain_at .later [] _ _ _ _ tapeDropsFrame.over (fun _ h => by cases h) (by kernel_rfl) (fun _ h => by cases h) tapeDrops_row_tie rfl ⟨rfl, rfl⟩ (by kernel_rfl) rfl
    (fun f fn hf hfn => by
      obtain rfl : f = 5 := Option.some.inj ((show Tryz.prog.funcNamed Rows.tapeDropsRow.func = some 5 by kernel_rfl).symm.trans hf) |>.symm
      obtain rfl : fn = Tryz.f5 := (Option.some.inj (Tryz.func5.symm.trans hfn)).symm
      exact ⟨by kernel_rfl, fun j t ht => by
        rw [Tryz.params5] at ht
        have hm : t ∈ [33, 4] := by simpa using Array.mem_of_getElem? ht
        have hall : ([33, 4].all fun u => !Tryz.prog.wantsStandIn u) = true := by kernel_rfl
        exact (show Tryz.prog.wantsStandIn t = false by simpa using List.all_eq_true.1 hall t hm)⟩)
    (by kernel_rfl)
#print axioms tapeDrops_holds
end Go.Proofs.YtigkoeledflhgaaGreatDoor
