/-
  TopicForms: for every input the law returns true, and each argument reads afterwards as it read before. No condition.
-/
import Derived.Test.YtcdoicndpecfiaaUf1
import Derived.Test.YtcdoicndpecfiaaUf2
import Derived.Test.YtcdoicndpecfiaaUf3
import Derived.Test.YtcdoicndpecfiaaUf4
import Derived.Test.YtcdoicndpecfiaaUf5
import Derived.Test.YtcdoicndpecfiaaUf6
import Derived.Test.YtcdoicndpecfiaaUf7
import Derived.Test.YtcdoicndpecfiaaUf8
import Derived.Test.YtcdoicndpecfiaaUf9
import Derived.Test.YtcdoicndpecfiaaUf10
import Derived.Test.YtcdoicndpecfiaaUf11
import Derived.Test.YtcdoicndpecfiaaUf12
import Derived.Test.YtcdoicndpecfiaaUf13
import Derived.Test.YtcdoicndpecfiaaUf14
import Derived.Test.YtcdoicndpecfiaaUf15
import Derived.Test.YtcdoicndpecfiaaUf16
import Derived.Test.YtcdoicndpecfiaaUf17
import Derived.Test.YtcdoicndpecfiaaUf18
import Derived.Test.YtcdoicndpecfiaaUf19
import Derived.Test.YtcdoicndpecfiaaUf20
import Derived.Test.YtcdoicndpecfiaaUf21
import Derived.Test.YtcdoicndpecfiaaUf22
import Derived.Test.YtcdoicndpecfiaaUf23
import Derived.Test.YtcdoicndpecfiaaUf24
import Derived.Test.YtcdoicndpecfiaaUf25
import Derived.Test.YtcdoicndpecfiaaUf26
import Derived.Test.YtcdoicndpecfiaaUf27
import Derived.ProofKit
import Derived.OpenShut
import Derived.ShutString
import Derived.ChangeOld
namespace Go.Proofs.Ytcdoicndpecfiaa.topicFormsFrame
open Go.ChangeShapes Go.WideShapes Go.ChangeAt Go.RowKit
open Go.ChangeMaps (open_string shut_string)
set_option linter.unusedVariables false

theorem own : ownKnob Try.prog.godebug = none := by kernel_rfl
theorem laidOut : laidOutB Try.prog = true := by kernel_rfl

set_option maxRecDepth 100000 in
theorem lifted (os : Os) (started : os.Started) (H : Type) (enc : TypeId × Value → H) :
    ReturnsInHanded {} Try.checked os 4 .any (Rows.topicFormsSpec.pre6 enc Try.prog Try.f4 Rows.topicFormsRow.domain false) (Rows.topicFormsSpec.post enc Try.prog Try.f4 false true false false) := by
  refine returnsInHanded_of_change (C := Try.checked) own started (by kernel_rfl) Try.func4
    (ChangeSpec.witness6 (enc := enc) (C := Try.checked) false ⟨#[], #[.string ByteArray.empty, .bool false], []⟩ 8 (by kernel_rfl) (by kernel_rfl) (by kernel_rfl) (by kernel_rfl)) ?_
  intro W base args ds gs before hval0 hW hcnd _
  have hval : ∀ (j : Nat) t v, Try.f4.params[j]? = some t → args[j]? = some v → Value.okWide Try.prog W .any base t v := hval0
  have hW' := hW
  obtain ⟨p, q, hA0, hV, rfl, hfz, hnd⟩ := hW
  have hA : DataW.TrodAll enc Try.prog W 0 (fun _ => true) true Try.f4.params.toList args.toList ds p := hA0
  rw [Try.params4] at hA hval
  obtain ⟨v0, vs0, d0, ds0, p0, q0, hargs, rfl, rfl, h0, r0⟩ := trodAll_cons hA
  obtain ⟨v1, vs1, d1, ds1, p1, q1, rfl, rfl, rfl, h1, r1⟩ := trodAll_cons r0
  obtain ⟨rfl, rfl, rfl⟩ := trodAll_nil r1
  obtain rfl : args = #[v0, v1] := by cases args; simp_all
  obtain ⟨rfl, rfl⟩ := trodVars_none hV
  obtain ⟨a0, rfl, rfl, rfl, w0⟩ := open_string Try.underlying9 (hval 0 9 v0 rfl rfl) h0
  obtain ⟨a1, rfl, rfl, rfl⟩ := open_bool Try.underlying4 (hval 1 4 v1 rfl rfl) h1
  clear hA0 hval0
  refine (walk_TopicForms a0 a1 W w0).mono fun e W' ⟨he, bel⟩ => ?_
  subst he
  exact ⟨_, rfl, _, _, _, [], _, [], hW', trodAll_mk1 (shut_bool Try.underlying4 _), (trodAll_cons_mk (shut_string Try.underlying9 w0) (trodAll_cons_mk (shut_bool Try.underlying4 _) trodAll_mk0)), rfl, bel.frame _, fun h => by cases h⟩

theorem over : Rows.topicFormsRow.holds Try.pinned (OpenSpec.ofChange Rows.topicFormsSpec) :=
  OpenClaim.holds_of_wide 4 Try.f4 rfl rfl rfl rfl rfl rfl rfl ⟨rfl, rfl, rfl, rfl, rfl⟩ rfl rfl rfl rfl rfl (by kernel_rfl) Try.func4 (by kernel_rfl)
    (of_decide_eq_true (by kernel_rfl)) (by unfold Func.isWrapper; first | (rw [if_pos (by decide +kernel)]; kernel_rfl) | (rw [if_neg (by decide +kernel)]; exact ⟨rfl, rfl⟩))
    (fun os started H enc _ => lifted os started H enc)
end Go.Proofs.Ytcdoicndpecfiaa.topicFormsFrame

namespace Go.Proofs.Ytcdoicndpecfiaa
/-- The statement. -/
theorem topicForms_holds : Rows.TopicFormsSaid := topicFormsFrame.over
#print axioms topicForms_holds
end Go.Proofs.Ytcdoicndpecfiaa
