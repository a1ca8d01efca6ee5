/-
  KeyxMost: for every input the law returns true, and each argument reads afterwards as it read before. No condition.
-/
import Derived.Test.YtmmnoieafndgjaaHm1
import Derived.Test.YtmmnoieafndgjaaHm2
import Derived.Test.YtmmnoieafndgjaaHm3
import Derived.Test.YtmmnoieafndgjaaHm4
import Derived.Test.YtmmnoieafndgjaaHm5
import Derived.Test.YtmmnoieafndgjaaHm6
import Derived.Test.YtmmnoieafndgjaaHm7
import Derived.Test.YtmmnoieafndgjaaHm8
import Derived.Test.YtmmnoieafndgjaaHm9
import Derived.Test.YtmmnoieafndgjaaHm10
import Derived.Test.YtmmnoieafndgjaaHm11
import Derived.Test.YtmmnoieafndgjaaHm12
import Derived.Test.YtmmnoieafndgjaaHm13
import Derived.Test.YtmmnoieafndgjaaHm14
import Derived.Test.YtmmnoieafndgjaaHm15
import Derived.Test.YtmmnoieafndgjaaHm16
import Derived.Test.YtmmnoieafndgjaaHm17
import Derived.Test.YtmmnoieafndgjaaHm18
import Derived.Test.YtmmnoieafndgjaaHm19
import Derived.Test.YtmmnoieafndgjaaHm20
import Derived.Test.YtmmnoieafndgjaaHm21
import Derived.Test.YtmmnoieafndgjaaHm22
import Derived.Test.YtmmnoieafndgjaaHm23
import Derived.Test.YtmmnoieafndgjaaHm24
import Derived.Test.YtmmnoieafndgjaaHm25
import Derived.Test.YtmmnoieafndgjaaHm26
import Derived.Test.YtmmnoieafndgjaaHm27
import Derived.Test.YtmmnoieafndgjaaHm28
import Derived.ProofKit
import Derived.OpenShut
import Derived.ShutString
import Derived.ChangeOld
namespace Go.Proofs.Ytmmnoieafndgjaa.keyxMostFrame
open Go.ChangeShapes Go.WideShapes Go.ChangeAt Go.RowKit
open Go.ChangeMaps (open_string shut_string)
set_option linter.unusedVariables false

theorem own : ownKnob Try.prog.godebug = none := by kernel_rfl
theorem laidOut : laidOutB Try.prog = true := by kernel_rfl

set_option maxRecDepth 100000 in
theorem lifted (os : Os) (started : os.Started) (H : Type) (enc : TypeId × Value → H) :
    ReturnsInHanded {} Try.checked os 3 .any (Rows.keyxMostSpec.pre6 enc Try.prog Try.f3 Rows.keyxMostRow.domain false) (Rows.keyxMostSpec.post enc Try.prog Try.f3 false true false false) := by
  refine returnsInHanded_of_change (C := Try.checked) own started (by kernel_rfl) Try.func3
    (ChangeSpec.witness6 (enc := enc) (C := Try.checked) false ⟨#[], #[.slice none 0 0, .int .u8 0, .int .u8 0], []⟩ 8 (by kernel_rfl) (by kernel_rfl) (by kernel_rfl) (by kernel_rfl)) ?_
  intro W base args ds gs before hval0 hW hcnd _
  have hval : ∀ (j : Nat) t v, Try.f3.params[j]? = some t → args[j]? = some v → Value.okWide Try.prog W .any base t v := hval0
  have hW' := hW
  obtain ⟨p, q, hA0, hV, rfl, hfz, hnd⟩ := hW
  have hA : DataW.TrodAll enc Try.prog W 0 (fun _ => true) true Try.f3.params.toList args.toList ds p := hA0
  rw [Try.params3] at hA hval
  obtain ⟨v0, vs0, d0, ds0, p0, q0, hargs, rfl, rfl, h0, r0⟩ := trodAll_cons hA
  obtain ⟨v1, vs1, d1, ds1, p1, q1, rfl, rfl, rfl, h1, r1⟩ := trodAll_cons r0
  obtain ⟨v2, vs2, d2, ds2, p2, q2, rfl, rfl, rfl, h2, r2⟩ := trodAll_cons r1
  obtain ⟨rfl, rfl, rfl⟩ := trodAll_nil r2
  obtain rfl : args = #[v0, v1, v2] := by cases args; simp_all
  obtain ⟨rfl, rfl⟩ := trodVars_none hV
  have k0 := h0
  have lt0 : ∀ x ∈ p0, x.block < W.heap.size := by obtain ⟨m, hm⟩ := k0; exact DataW.trod_lt m _ _ _ hm
  obtain ⟨la0, len0, cap0, rfl⟩ := okWide_slice Try.underlying22 (hval 0 22 v0 rfl rfl)
  obtain ⟨z0, s0, f0⟩ : ∃ zs, IntsOf .u8 W (.slice la0 len0 cap0) zs ∧ ∀ n ∈ zs, (Lit.int .u8 n).wf = true := by
    obtain ⟨fuel, hf⟩ := h0
    rcases open_ints Try.underlying22 Try.underlying5 (by kernel_rfl) hf with ⟨hcs, _⟩ | ⟨x, l, c, zs, hcs, _, hl, hm, hz, hx, hcell, hwf⟩
    · simp [Value.cells] at hcs
      obtain ⟨rfl, rfl, rfl⟩ := hcs
      exact ⟨[], ⟨none, 0, rfl, .inl rfl⟩, fun n hn => by cases hn⟩
    · simp [Value.cells] at hcs
      obtain ⟨rfl, rfl, rfl⟩ := hcs
      exact ⟨zs.take _, ints_of hl (by simpa using hz) hcell, fun n hn => hwf n (List.mem_of_mem_take hn)⟩
  obtain ⟨a1, rfl, rfl, rfl, w1⟩ := open_int Try.underlying5 (hval 1 5 v1 rfl rfl) h1
  obtain ⟨a2, rfl, rfl, rfl, w2⟩ := open_int Try.underlying5 (hval 2 5 v2 rfl rfl) h2
  clear hA0 hval0
  refine (walk_KeyxMost (.slice la0 len0 cap0) z0 a1 a2 W s0 f0 w1 w2).mono fun e W' ⟨he, bel⟩ => ?_
  subst he
  exact ⟨_, rfl, _, _, _, [], _, [], hW', trodAll_mk1 (shut_bool Try.underlying4 _), (trodAll_cons_mk (Below.trod laidOut (by kernel_rfl) (of_decide_eq_true (by kernel_rfl)) k0 bel lt0) (trodAll_cons_mk (shut_int Try.underlying5 w1) (trodAll_cons_mk (shut_int Try.underlying5 w2) trodAll_mk0))), rfl, bel.frame _, fun h => by cases h⟩

theorem over : Rows.keyxMostRow.holds Try.pinned (OpenSpec.ofChange Rows.keyxMostSpec) :=
  OpenClaim.holds_of_wide 3 Try.f3 rfl rfl rfl rfl rfl rfl rfl ⟨rfl, rfl, rfl, rfl, rfl⟩ rfl rfl rfl rfl rfl (by kernel_rfl) Try.func3 (by kernel_rfl)
    (of_decide_eq_true (by kernel_rfl)) (by unfold Func.isWrapper; first | (rw [if_pos (by decide +kernel)]; kernel_rfl) | (rw [if_neg (by decide +kernel)]; exact ⟨rfl, rfl⟩))
    (fun os started H enc _ => lifted os started H enc)
end Go.Proofs.Ytmmnoieafndgjaa.keyxMostFrame

namespace Go.Proofs.Ytmmnoieafndgjaa
/-- The statement. -/
theorem keyxMost_holds : Rows.KeyxMostSaid := keyxMostFrame.over
#print axioms keyxMost_holds
end Go.Proofs.Ytmmnoieafndgjaa
