/-
  TopicTables: for every input the law returns true, and each argument reads afterwards as it read before. No condition.
-/
import Derived.Test.YtcdoicndpecfiaaUt1
import Derived.Test.YtcdoicndpecfiaaUt2
import Derived.Test.YtcdoicndpecfiaaUt3
import Derived.Test.YtcdoicndpecfiaaUt4
import Derived.Test.YtcdoicndpecfiaaUt5
import Derived.Test.YtcdoicndpecfiaaUt6
import Derived.Test.YtcdoicndpecfiaaUt7
import Derived.Test.YtcdoicndpecfiaaUt8
import Derived.Test.YtcdoicndpecfiaaUt9
import Derived.Test.YtcdoicndpecfiaaUt10
import Derived.Test.YtcdoicndpecfiaaUt11
import Derived.Test.YtcdoicndpecfiaaUt12
import Derived.Test.YtcdoicndpecfiaaUt13
import Derived.Test.YtcdoicndpecfiaaUt14
import Derived.Test.YtcdoicndpecfiaaUt15
import Derived.Test.YtcdoicndpecfiaaUt16
import Derived.Test.YtcdoicndpecfiaaUt17
import Derived.Test.YtcdoicndpecfiaaUt18
import Derived.Test.YtcdoicndpecfiaaUt19
import Derived.Test.YtcdoicndpecfiaaUt20
import Derived.Test.YtcdoicndpecfiaaUt21
import Derived.Test.YtcdoicndpecfiaaUt22
import Derived.Test.YtcdoicndpecfiaaUt23
import Derived.Test.YtcdoicndpecfiaaUt24
import Derived.Test.YtcdoicndpecfiaaUt25
import Derived.Test.YtcdoicndpecfiaaUt26
import Derived.Test.YtcdoicndpecfiaaUt27
import Derived.Test.YtcdoicndpecfiaaUt28
import Derived.Test.YtcdoicndpecfiaaUt29
import Derived.ProofKit
import Derived.OpenShut
import Derived.ShutString
import Derived.ChangeOld
namespace Go.Proofs.Ytcdoicndpecfiaa.topicTablesFrame
open Go.ChangeShapes Go.WideShapes Go.ChangeAt Go.RowKit
open Go.ChangeMaps (open_string shut_string)
set_option linter.unusedVariables false

theorem own : ownKnob Try.prog.godebug = none := by kernel_rfl
theorem laidOut : laidOutB Try.prog = true := by kernel_rfl

set_option maxRecDepth 100000 in
theorem lifted (os : Os) (started : os.Started) (H : Type) (enc : TypeId × Value → H) :
    ReturnsInHanded {} Try.checked os 3 .any (Rows.topicTablesSpec.pre6 enc Try.prog Try.f3 Rows.topicTablesRow.domain false) (Rows.topicTablesSpec.post enc Try.prog Try.f3 false true false false) := by
  refine returnsInHanded_of_change (C := Try.checked) own started (by kernel_rfl) Try.func3
    (ChangeSpec.witness6 (enc := enc) (C := Try.checked) false ⟨#[], #[.slice none 0 0, .string ByteArray.empty, .int .i64 0], []⟩ 8 (by kernel_rfl) (by kernel_rfl) (by kernel_rfl) (by kernel_rfl)) ?_
  intro W base args ds gs before hval0 hW hcnd _
  have hval : ∀ (j : Nat) t v, Try.f3.params[j]? = some t → args[j]? = some v → Value.okWide Try.prog W .any base t v := hval0
  have hW' := hW
  obtain ⟨p, q, hA0, hV, rfl, hfz, hnd⟩ := hW
  have hA : DataW.TrodAll enc Try.prog W 0 (fun _ => true) true Try.f3.params.toList args.toList ds p := hA0
  rw [Try.params3] at hA hval
  obtain ⟨v0, vs0, d0, ds0, p0, q0, hargs, rfl, rfl, h0, r0⟩ := trodAll_cons hA
  obtain ⟨v1, vs1, d1, ds1, p1, q1, rfl, rfl, rfl, h1, r1⟩ := trodAll_cons r0
  obtain ⟨v2, vs2, d2, ds2, p2, q2, rfl, rfl, rfl, h2, r2⟩ := trodAll_cons r1
  obtain ⟨rfl, rfl, rfl⟩ := trodAll_nil r2
  obtain rfl : args = #[v0, v1, v2] := by cases args; simp_all
  obtain ⟨rfl, rfl⟩ := trodVars_none hV
  have k0 := h0
  have lt0 : ∀ x ∈ p0, x.block < W.heap.size := by obtain ⟨m, hm⟩ := k0; exact DataW.trod_lt m _ _ _ hm
  obtain ⟨la0, len0, cap0, rfl⟩ := okWide_slice Try.underlying22 (hval 0 22 v0 rfl rfl)
  obtain ⟨fu0, hf0⟩ := id h0
  obtain ⟨z0, s0, m0, r0'⟩ := open_tops hf0
  obtain ⟨a1, rfl, rfl, rfl, w1⟩ := open_string Try.underlying9 (hval 1 9 v1 rfl rfl) h1
  obtain ⟨a2, rfl, rfl, rfl, w2⟩ := open_int Try.underlying3 (hval 2 3 v2 rfl rfl) h2
  clear hA0 hval0
  refine (walk_TopicTables (.slice la0 len0 cap0) z0 a1 a2 W s0 m0 r0' w1 w2).mono fun e W' ⟨he, bel⟩ => ?_
  subst he
  exact ⟨_, rfl, _, _, _, [], _, [], hW', trodAll_mk1 (shut_bool Try.underlying4 _), (trodAll_cons_mk (Below.trod laidOut (by kernel_rfl) (of_decide_eq_true (by kernel_rfl)) k0 bel lt0) (trodAll_cons_mk (shut_string Try.underlying9 w1) (trodAll_cons_mk (shut_int Try.underlying3 w2) trodAll_mk0))), rfl, bel.frame _, fun h => by cases h⟩

theorem over : Rows.topicTablesRow.holds Try.pinned (OpenSpec.ofChange Rows.topicTablesSpec) :=
  OpenClaim.holds_of_wide 3 Try.f3 rfl rfl rfl rfl rfl rfl rfl ⟨rfl, rfl, rfl, rfl, rfl⟩ rfl rfl rfl rfl rfl (by kernel_rfl) Try.func3 (by kernel_rfl)
    (of_decide_eq_true (by kernel_rfl)) (by unfold Func.isWrapper; first | (rw [if_pos (by decide +kernel)]; kernel_rfl) | (rw [if_neg (by decide +kernel)]; exact ⟨rfl, rfl⟩))
    (fun os started H enc _ => lifted os started H enc)
end Go.Proofs.Ytcdoicndpecfiaa.topicTablesFrame

namespace Go.Proofs.Ytcdoicndpecfiaa
/-- The statement. -/
theorem topicTables_holds : Rows.TopicTablesSaid := topicTablesFrame.over
#print axioms topicTables_holds
end Go.Proofs.Ytcdoicndpecfiaa
