/-
  KeyxFinds: for every input the law returns true, and each argument reads afterwards as it read before. No condition.
-/
import Derived.Test.YtmmnoieafndgjaaGreatHf1
import Derived.Test.YtmmnoieafndgjaaGreatHf2
import Derived.Test.YtmmnoieafndgjaaGreatHf3
import Derived.Test.YtmmnoieafndgjaaGreatHf4
import Derived.Test.YtmmnoieafndgjaaGreatHf5
import Derived.Test.YtmmnoieafndgjaaGreatHf6
import Derived.Test.YtmmnoieafndgjaaGreatHf7
import Derived.Test.YtmmnoieafndgjaaGreatHf8
import Derived.Test.YtmmnoieafndgjaaGreatHf9
import Derived.Test.YtmmnoieafndgjaaGreatHf10
import Derived.Test.YtmmnoieafndgjaaGreatHf11
import Derived.Test.YtmmnoieafndgjaaGreatHf12
import Derived.Test.YtmmnoieafndgjaaGreatHf13
import Derived.Test.YtmmnoieafndgjaaGreatHf14
import Derived.Test.YtmmnoieafndgjaaGreatHf15
import Derived.Test.YtmmnoieafndgjaaGreatHf16
import Derived.Test.YtmmnoieafndgjaaGreatHf17
import Derived.Test.YtmmnoieafndgjaaGreatHf18
import Derived.Test.YtmmnoieafndgjaaGreatHf19
import Derived.Test.YtmmnoieafndgjaaGreatHf20
import Derived.Test.YtmmnoieafndgjaaGreatHf21
import Derived.Test.YtmmnoieafndgjaaGreatHf22
import Derived.Test.YtmmnoieafndgjaaGreatHf23
import Derived.Test.YtmmnoieafndgjaaGreatHf24
import Derived.Test.YtmmnoieafndgjaaGreatHf25
import Derived.Test.YtmmnoieafndgjaaGreatHf26
import Derived.Test.YtmmnoieafndgjaaGreatHf27
import Derived.Test.YtmmnoieafndgjaaGreatHf28
import Derived.Test.YtmmnoieafndgjaaGreatHf29
import Derived.Test.YtmmnoieafndgjaaGreatHf30
import Derived.Test.YtmmnoieafndgjaaGreatHf31
import Derived.Test.YtmmnoieafndgjaaGreatHf32
import Derived.Lib.SmallJoins
import Derived.ProofKit
import Derived.OpenShut
import Derived.ShutString
import Derived.ChangeOld
namespace Go.Proofs.YtmmnoieafndgjaaGreat.keyxFindsFrame
open Go.ChangeShapes Go.WideShapes Go.ChangeAt Go.RowKit
open Go.ChangeMaps (open_string shut_string)
open Go.Joins
set_option linter.unusedVariables false

theorem own : ownKnob Tryz.prog.godebug = none := by kernel_rfl
theorem laidOut : laidOutB Tryz.prog = true := by kernel_rfl

set_option maxRecDepth 100000 in
theorem lifted (os : Os) (started : os.Started) (H : Type) (enc : TypeId × Value → H) :
    ReturnsInHanded {} Tryz.checked os 3 .any (Rows.keyxFindsSpec.pre6 enc Tryz.prog Tryz.f3 Rows.keyxFindsRow.domain false) (Rows.keyxFindsSpec.post enc Tryz.prog Tryz.f3 false true false false) := by
  refine returnsInHanded_of_change (C := Tryz.checked) own started (by kernel_rfl) Tryz.func3
    (ChangeSpec.witness6 (enc := enc) (C := Tryz.checked) false ⟨#[], #[.slice none 0 0, .agg #[.string ByteArray.empty, .string ByteArray.empty, .int .i64 0, .int .i64 0], .agg #[.int .i64 0, .int .i64 0]], []⟩ 8 (by kernel_rfl) (by kernel_rfl) (by kernel_rfl) (by kernel_rfl)) ?_
  intro W base args ds gs before hval0 hW hcnd _
  have hval : ∀ (j : Nat) t v, Tryz.f3.params[j]? = some t → args[j]? = some v → Value.okWide Tryz.prog W .any base t v := hval0
  have hW' := hW
  obtain ⟨p, q, hA0, hV, rfl, hfz, hnd⟩ := hW
  have hA : DataW.TrodAll enc Tryz.prog W 0 (fun _ => true) true Tryz.f3.params.toList args.toList ds p := hA0
  rw [Tryz.params3] at hA hval
  obtain ⟨v0, vs0, d0, ds0, p0, q0, hargs, rfl, rfl, h0, r0⟩ := trodAll_cons hA
  obtain ⟨v1, vs1, d1, ds1, p1, q1, rfl, rfl, rfl, h1, r1⟩ := trodAll_cons r0
  obtain ⟨v2, vs2, d2, ds2, p2, q2, rfl, rfl, rfl, h2, r2⟩ := trodAll_cons r1
  obtain ⟨rfl, rfl, rfl⟩ := trodAll_nil r2
  obtain rfl : args = #[v0, v1, v2] := by cases args; simp_all
  obtain ⟨rfl, rfl⟩ := trodVars_none hV
  have k0 := h0
  have lt0 : ∀ x ∈ p0, x.block < W.heap.size := by obtain ⟨m, hm⟩ := k0; exact DataW.trod_lt m _ _ _ hm
  obtain ⟨la0, len0, cap0, rfl⟩ := okWide_slice Tryz.underlying22 (hval 0 22 v0 rfl rfl)
  obtain ⟨fu0, hf0⟩ := id h0
  obtain ⟨z0, s0, m0, r0'⟩ := open_ads hf0
  have k1 := h1
  have lt1 : ∀ x ∈ p1, x.block < W.heap.size := by obtain ⟨m, hm⟩ := k1; exact DataW.trod_lt m _ _ _ hm
  obtain ⟨x1, rfl⟩ := open_ad (hval 1 24 v1 rfl rfl) h1
  have k2 := h2
  have lt2 : ∀ x ∈ p2, x.block < W.heap.size := by obtain ⟨m, hm⟩ := k2; exact DataW.trod_lt m _ _ _ hm
  obtain ⟨b2_0, b2_1, rfl, w2_0, w2_1⟩ := open_twoi (hval 2 25 v2 rfl rfl) h2
  clear hA0 hval0
  refine (walk_KeyxFinds (.slice la0 len0 cap0) z0 x1.t x1.k x1.x x1.y b2_0 b2_1 W s0 m0 r0').mono fun e W' ⟨he, bel⟩ => ?_
  subst he
  exact ⟨_, rfl, _, _, _, [], _, [], hW', trodAll_mk1 (shut_bool Tryz.underlying4 _), (trodAll_cons_mk (Below.trod laidOut (by kernel_rfl) (of_decide_eq_true (by kernel_rfl)) k0 bel lt0) (trodAll_cons_mk (Below.trod laidOut (by kernel_rfl) (of_decide_eq_true (by kernel_rfl)) k1 bel lt1) (trodAll_cons_mk (Below.trod laidOut (by kernel_rfl) (of_decide_eq_true (by kernel_rfl)) k2 bel lt2) trodAll_mk0))), rfl, bel.frame _, fun h => by cases h⟩

theorem over : Rows.keyxFindsRow.holds Tryz.pinned (OpenSpec.ofChange Rows.keyxFindsSpec) :=
  OpenClaim.holds_of_wide 3 Tryz.f3 rfl rfl rfl rfl rfl rfl rfl ⟨rfl, rfl, rfl, rfl, rfl⟩ rfl rfl rfl rfl rfl (by kernel_rfl) Tryz.func3 (by kernel_rfl)
    (of_decide_eq_true (by kernel_rfl)) (by unfold Func.isWrapper; first | (rw [if_pos (by decide +kernel)]; kernel_rfl) | (rw [if_neg (by decide +kernel)]; exact ⟨rfl, rfl⟩))
    (fun os started H enc _ => lifted os started H enc)
end Go.Proofs.YtmmnoieafndgjaaGreat.keyxFindsFrame

namespace Go.Proofs.YtmmnoieafndgjaaGreat
/-- The statement. -/
theorem keyxFinds_holds : Rows.KeyxFindsSaid := keyxFindsFrame.over
#print axioms keyxFinds_holds
end Go.Proofs.YtmmnoieafndgjaaGreat
