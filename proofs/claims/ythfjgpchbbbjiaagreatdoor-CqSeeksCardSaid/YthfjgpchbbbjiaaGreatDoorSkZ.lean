/-
  CqSeeks: for every input the law returns true, and each argument reads afterwards as it read before. No condition; the listed variables are tied by the card to the program's text.
-/
import Derived.Test.YthfjgpchbbbjiaaGreatDoorSk1
import Derived.Test.YthfjgpchbbbjiaaGreatDoorSk2
import Derived.Test.YthfjgpchbbbjiaaGreatDoorSk3
import Derived.Test.YthfjgpchbbbjiaaGreatDoorSk4
import Derived.Test.YthfjgpchbbbjiaaGreatDoorSk5
import Derived.Test.YthfjgpchbbbjiaaGreatDoorSk6
import Derived.Test.YthfjgpchbbbjiaaGreatDoorSk7
import Derived.Test.YthfjgpchbbbjiaaGreatDoorSk8
import Derived.Test.YthfjgpchbbbjiaaGreatDoorSk9
import Derived.Test.YthfjgpchbbbjiaaGreatDoorSk10
import Derived.Test.YthfjgpchbbbjiaaGreatDoorSk11
import Derived.Test.YthfjgpchbbbjiaaGreatDoorSk12
import Derived.Test.YthfjgpchbbbjiaaGreatDoorSk13
import Derived.Test.YthfjgpchbbbjiaaGreatDoorSk14
import Derived.Test.YthfjgpchbbbjiaaGreatDoorSk15
import Derived.Test.YthfjgpchbbbjiaaGreatDoorSk16
import Derived.Test.YthfjgpchbbbjiaaGreatDoorSk17
import Derived.Test.YthfjgpchbbbjiaaGreatDoorSk18
import Derived.Test.YthfjgpchbbbjiaaGreatDoorSk19
import Derived.Test.YthfjgpchbbbjiaaGreatDoorSk20
import Derived.Test.YthfjgpchbbbjiaaGreatDoorSk21
import Derived.Test.YthfjgpchbbbjiaaGreatDoorSk22
import Derived.Test.YthfjgpchbbbjiaaGreatDoorSk23
import Derived.Test.YthfjgpchbbbjiaaGreatDoorSk24
import Derived.Test.YthfjgpchbbbjiaaGreatDoorSk25
import Derived.Test.YthfjgpchbbbjiaaGreatDoorSk26
import Derived.Test.YthfjgpchbbbjiaaGreatDoorSk27
import Derived.Test.YthfjgpchbbbjiaaGreatDoorSk28
import Derived.Test.YthfjgpchbbbjiaaGreatDoorSk29
import Derived.Test.YthfjgpchbbbjiaaGreatDoorSk30
import Derived.Test.YthfjgpchbbbjiaaGreatDoorSk31
import Derived.Test.YthfjgpchbbbjiaaGreatDoorSk32
import Derived.Test.YthfjgpchbbbjiaaGreatDoorCards
import Derived.Test.YthfjgpchbbbjiaaGreatDoorTie
import Derived.ProofKit
import Derived.LaidMore
import Derived.OpenShut
import Derived.Stop.Joined
import Derived.SevenTiedAt
import Derived.ShutString
import Derived.ChangeOld
import Derived.Lib.LaidTab
namespace Go.Proofs.YthfjgpchbbbjiaaGreatDoor.cqSeeksFrame
open Go.ChangeShapes Go.WideShapes Go.ChangeAt Go.RowKit
open Go.ChangeMaps (open_string shut_string)
set_option linter.unusedVariables false

theorem own : ownKnob Tryz.prog.godebug = none := by kernel_rfl
theorem laidOut : laidOutB Tryz.prog = true := by kernel_rfl

/-- The door's own heap meets the condition. -/
theorem door_met (os : Os) (args : Array Value) : laidMetH Tryz.prog Rows.cqSeeksRow.laid ((World.doorLaid Tryz.prog 400 os).forCall (fun _ _ => 0) ⟨#[], args, []⟩).memory :=
  laidMetH_of_parts3 (fuel := 8) (laidMet_of_run' 8 (by kernel_rfl) (by kernel_rfl)) (by kernel_rfl) (by kernel_rfl)

set_option maxRecDepth 100000 in
theorem lifted (os : Os) (started : os.Started) (H : Type) (enc : TypeId × Value → H) :
    ReturnsInHanded {} Tryz.checked os 6 .any (fun w args => (Rows.cqSeeksSpec.pre enc Tryz.prog Tryz.f6 [] false w args ∧ laidMetH Tryz.prog Rows.cqSeeksRow.laid w) ∧ sizedMet enc Tryz.prog Tryz.f6 (OpenSpec.ofChange Rows.cqSeeksSpec) false w args)
      (Rows.cqSeeksSpec.post enc Tryz.prog Tryz.f6 false true false false) := by
  refine returnsInHanded_of_change_and (C := Tryz.checked) (X := fun w _ => laidMetH Tryz.prog Rows.cqSeeksRow.laid w) (fun _ _ _ hh h => h.of_heap hh) own started (by kernel_rfl) Tryz.func6
    (ChangeSpec.witness_shaped (enc := enc) (C := Tryz.checked) (os := os) (X := fun w _ => laidMetH Tryz.prog Rows.cqSeeksRow.laid w) false (World.doorLaid Tryz.prog 400 os) #[.slice none 0 0, .int .i64 0, .int .i64 0] 8 rfl (World.shaped_of_RefB (by kernel_rfl) (by kernel_rfl)) (by kernel_rfl) (by kernel_rfl) (by kernel_rfl) (door_met os _)) ?_
  intro W base args ds gs before hval0 hW _ hsz0 hL _
  have hval : ∀ (j : Nat) t v, Tryz.f6.params[j]? = some t → args[j]? = some v → Value.okWide Tryz.prog W .any base t v := hval0
  have hW' := hW
  obtain ⟨p, q, hA0, hV, rfl, hfz, hnd⟩ := hW
  have hA : DataW.TrodAll enc Tryz.prog W 0 (fun _ => true) true Tryz.f6.params.toList args.toList ds p := hA0
  rw [Tryz.params6] at hA hval
  obtain ⟨v0, vs0, d0, ds0, p0, q0, hargs, rfl, rfl, h0, r0⟩ := trodAll_cons hA
  obtain ⟨v1, vs1, d1, ds1, p1, q1, rfl, rfl, rfl, h1, r1⟩ := trodAll_cons r0
  obtain ⟨v2, vs2, d2, ds2, p2, q2, rfl, rfl, rfl, h2, r2⟩ := trodAll_cons r1
  obtain ⟨rfl, rfl, rfl⟩ := trodAll_nil r2
  obtain rfl : args = #[v0, v1, v2] := by cases args; simp_all
  obtain ⟨rfl, rfl⟩ := trodVars_none hV
  have k0 := h0
  have lt0 : ∀ x ∈ p0, x.block < W.heap.size := by obtain ⟨m, hm⟩ := k0; exact DataW.trod_lt m _ _ _ hm
  obtain ⟨la0, len0, cap0, rfl⟩ := okWide_slice Tryz.underlying61 (hval 0 61 v0 rfl rfl)
  obtain ⟨z0, s0, f0⟩ : ∃ zs, IntsOf .u8 W (.slice la0 len0 cap0) zs ∧ ∀ n ∈ zs, (Lit.int .u8 n).wf = true := by
    obtain ⟨fuel, hf⟩ := h0
    rcases open_ints Tryz.underlying61 Tryz.underlying5 (by kernel_rfl) hf with ⟨hcs, _⟩ | ⟨x, l, c, zs, hcs, _, hl, hm, hz, hx, hcell, hwf⟩
    · simp [Value.cells] at hcs
      obtain ⟨rfl, rfl, rfl⟩ := hcs
      exact ⟨[], ⟨none, 0, rfl, .inl rfl⟩, fun n hn => by cases hn⟩
    · simp [Value.cells] at hcs
      obtain ⟨rfl, rfl, rfl⟩ := hcs
      exact ⟨zs.take _, ints_of hl (by simpa using hz) hcell, fun n hn => hwf n (List.mem_of_mem_take hn)⟩
  obtain ⟨a1, rfl, rfl, rfl, w1⟩ := open_int Tryz.underlying3 (hval 1 3 v1 rfl rfl) h1
  obtain ⟨a2, rfl, rfl, rfl, w2⟩ := open_int Tryz.underlying3 (hval 2 3 v2 rfl rfl) h2
  clear hA0 hval0
  refine (walkF_CqSeeks (.slice la0 len0 cap0) z0 a1 a2 W (tab_of_laid hL) s0 f0 w1 w2).mono fun e W' ⟨he, bel⟩ => ?_
  subst he
  exact ⟨_, rfl, _, _, _, [], _, [], hW', trodAll_mk1 (shut_bool Tryz.underlying4 _), (trodAll_cons_mk (Below.trod laidOut (by kernel_rfl) (of_decide_eq_true (by kernel_rfl)) k0 bel lt0) (trodAll_cons_mk (shut_int Tryz.underlying3 w1) (trodAll_cons_mk (shut_int Tryz.underlying3 w2) trodAll_mk0))), rfl, bel.frame _, fun h => by cases h⟩

theorem over : Rows.CqSeeksSaid :=
  OpenClaim.holds_of_wide 6 Tryz.f6 rfl rfl rfl rfl rfl rfl rfl ⟨rfl, rfl, rfl, rfl, rfl⟩ rfl rfl rfl rfl rfl (by kernel_rfl) Tryz.func6 (by kernel_rfl)
    (of_decide_eq_true (by kernel_rfl)) (by unfold Func.isWrapper; first | (rw [if_pos (by decide +kernel)]; kernel_rfl) | (rw [if_neg (by decide +kernel)]; exact ⟨rfl, rfl⟩))
    (fun os started H enc _ => lifted os started H enc)
end Go.Proofs.YthfjgpchbbbjiaaGreatDoor.cqSeeksFrame

namespace Go.Proofs.YthfjgpchbbbjiaaGreatDoor
/-- The statement: the tied card. -/
theorem cqSeeks_holds : Rows.CqSeeksCardSaid :=
  Claim7.holds_tied_plain_at .later [] _ _ _ _ cqSeeksFrame.over (fun _ h => by cases h) (by kernel_rfl) (fun _ h => by cases h) cqSeeks_row_tie rfl ⟨rfl, rfl⟩ (by kernel_rfl) rfl
    (fun f fn hf hfn => by
      obtain rfl : f = 6 := Option.some.inj ((show Tryz.prog.funcNamed Rows.cqSeeksRow.func = some 6 by kernel_rfl).symm.trans hf) |>.symm
      obtain rfl : fn = Tryz.f6 := (Option.some.inj (Tryz.func6.symm.trans hfn)).symm
      exact ⟨by kernel_rfl, fun j t ht => by
        rw [Tryz.params6] at ht
        have hm : t ∈ [61, 3, 3] := by simpa using Array.mem_of_getElem? ht
        have hall : ([61, 3, 3].all fun u => !Tryz.prog.wantsStandIn u) = true := by kernel_rfl
        exact (show Tryz.prog.wantsStandIn t = false by simpa using List.all_eq_true.1 hall t hm)⟩)
    (by kernel_rfl)
#print axioms cqSeeks_holds
end Go.Proofs.YthfjgpchbbbjiaaGreatDoor
