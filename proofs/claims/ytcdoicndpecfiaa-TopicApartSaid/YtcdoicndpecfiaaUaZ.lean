/-
  TopicApart: for every input the law returns true, and each argument reads afterwards as it read before. No condition.
-/
import Derived.Test.YtcdoicndpecfiaaUa1
import Derived.Test.YtcdoicndpecfiaaUa2
import Derived.Test.YtcdoicndpecfiaaUa3
import Derived.Test.YtcdoicndpecfiaaUa4
import Derived.Test.YtcdoicndpecfiaaUa5
import Derived.Test.YtcdoicndpecfiaaUa6
import Derived.Test.YtcdoicndpecfiaaUa7
import Derived.Test.YtcdoicndpecfiaaUa8
import Derived.Test.YtcdoicndpecfiaaUa9
import Derived.Test.YtcdoicndpecfiaaUa10
import Derived.Test.YtcdoicndpecfiaaUa11
import Derived.Test.YtcdoicndpecfiaaUa12
import Derived.Test.YtcdoicndpecfiaaUa13
import Derived.Test.YtcdoicndpecfiaaUa14
import Derived.Test.YtcdoicndpecfiaaUa15
import Derived.Test.YtcdoicndpecfiaaUa16
import Derived.Test.YtcdoicndpecfiaaUa17
import Derived.Test.YtcdoicndpecfiaaUa18
import Derived.Test.YtcdoicndpecfiaaUa19
import Derived.Test.YtcdoicndpecfiaaUa20
import Derived.Test.YtcdoicndpecfiaaUa21
import Derived.Test.YtcdoicndpecfiaaUa22
import Derived.Test.YtcdoicndpecfiaaUa23
import Derived.Test.YtcdoicndpecfiaaUa24
import Derived.Test.YtcdoicndpecfiaaUa25
import Derived.Test.YtcdoicndpecfiaaUa26
import Derived.Test.YtcdoicndpecfiaaUa27
import Derived.Test.YtcdoicndpecfiaaUa28
import Derived.Test.YtcdoicndpecfiaaUa29
import Derived.Test.YtcdoicndpecfiaaUa30
import Derived.Test.YtcdoicndpecfiaaUa31
import Derived.Test.YtcdoicndpecfiaaUa32
import Derived.ProofKit
import Derived.OpenShut
import Derived.ShutString
import Derived.ChangeOld
namespace Go.Proofs.Ytcdoicndpecfiaa.topicApartFrame
open Go.ChangeShapes Go.WideShapes Go.ChangeAt Go.RowKit
open Go.ChangeMaps (open_string shut_string)
set_option linter.unusedVariables false

theorem own : ownKnob Try.prog.godebug = none := by kernel_rfl
theorem laidOut : laidOutB Try.prog = true := by kernel_rfl

set_option maxRecDepth 100000 in
theorem lifted (os : Os) (started : os.Started) (H : Type) (enc : TypeId × Value → H) :
    ReturnsInHanded {} Try.checked os 5 .any (Rows.topicApartSpec.pre6 enc Try.prog Try.f5 Rows.topicApartRow.domain false) (Rows.topicApartSpec.post enc Try.prog Try.f5 false true false false) := by
  refine returnsInHanded_of_change (C := Try.checked) own started (by kernel_rfl) Try.func5
    (ChangeSpec.witness6 (enc := enc) (C := Try.checked) false ⟨#[], #[.slice none 0 0, .slice none 0 0], []⟩ 8 (by kernel_rfl) (by kernel_rfl) (by kernel_rfl) (by kernel_rfl)) ?_
  intro W base args ds gs before hval0 hW hcnd _
  have hval : ∀ (j : Nat) t v, Try.f5.params[j]? = some t → args[j]? = some v → Value.okWide Try.prog W .any base t v := hval0
  have hW' := hW
  obtain ⟨p, q, hA0, hV, rfl, hfz, hnd⟩ := hW
  have hA : DataW.TrodAll enc Try.prog W 0 (fun _ => true) true Try.f5.params.toList args.toList ds p := hA0
  rw [Try.params5] at hA hval
  obtain ⟨v0, vs0, d0, ds0, p0, q0, hargs, rfl, rfl, h0, r0⟩ := trodAll_cons hA
  obtain ⟨v1, vs1, d1, ds1, p1, q1, rfl, rfl, rfl, h1, r1⟩ := trodAll_cons r0
  obtain ⟨rfl, rfl, rfl⟩ := trodAll_nil r1
  obtain rfl : args = #[v0, v1] := by cases args; simp_all
  obtain ⟨rfl, rfl⟩ := trodVars_none hV
  have k0 := h0
  have lt0 : ∀ x ∈ p0, x.block < W.heap.size := by obtain ⟨m, hm⟩ := k0; exact DataW.trod_lt m _ _ _ hm
  obtain ⟨la0, len0, cap0, rfl⟩ := okWide_slice Try.underlying42 (hval 0 42 v0 rfl rfl)
  obtain ⟨z0, s0⟩ : ∃ zs, Strs W 0 (.slice la0 len0 cap0) zs := by
    obtain ⟨fuel, hf⟩ := h0
    rcases open_strings Try.underlying42 Try.underlying9 (by kernel_rfl) hf with ⟨hcs, _⟩ | ⟨x, l, c, zs, hcs, _, hl, hm, hz, hx, hcell, hwf⟩
    · simp [Value.cells] at hcs
      obtain ⟨rfl, rfl, rfl⟩ := hcs
      exact ⟨[], none, 0, rfl, .inl rfl⟩
    · simp [Value.cells] at hcs
      obtain ⟨rfl, rfl, rfl⟩ := hcs
      exact ⟨zs.take _, strs_of hl (by simpa using hz) hcell⟩
  have k1 := h1
  have lt1 : ∀ x ∈ p1, x.block < W.heap.size := by obtain ⟨m, hm⟩ := k1; exact DataW.trod_lt m _ _ _ hm
  obtain ⟨la1, len1, cap1, rfl⟩ := okWide_slice Try.underlying43 (hval 1 43 v1 rfl rfl)
  obtain ⟨fu1, hf1⟩ := id h1
  obtain ⟨z1, s1, m1, r1'⟩ := ubools_open hf1
  clear hA0 hval0
  refine (walk_TopicApart (.slice la0 len0 cap0) z0 (.slice la1 len1 cap1) z1 W s0 s1 m1 r1').mono fun e W' ⟨he, bel⟩ => ?_
  subst he
  exact ⟨_, rfl, _, _, _, [], _, [], hW', trodAll_mk1 (shut_bool Try.underlying4 _), (trodAll_cons_mk (Below.trod laidOut (by kernel_rfl) (of_decide_eq_true (by kernel_rfl)) k0 bel lt0) (trodAll_cons_mk (Below.trod laidOut (by kernel_rfl) (of_decide_eq_true (by kernel_rfl)) k1 bel lt1) trodAll_mk0)), rfl, bel.frame _, fun h => by cases h⟩

theorem over : Rows.topicApartRow.holds Try.pinned (OpenSpec.ofChange Rows.topicApartSpec) :=
  OpenClaim.holds_of_wide 5 Try.f5 rfl rfl rfl rfl rfl rfl rfl ⟨rfl, rfl, rfl, rfl, rfl⟩ rfl rfl rfl rfl rfl (by kernel_rfl) Try.func5 (by kernel_rfl)
    (of_decide_eq_true (by kernel_rfl)) (by unfold Func.isWrapper; first | (rw [if_pos (by decide +kernel)]; kernel_rfl) | (rw [if_neg (by decide +kernel)]; exact ⟨rfl, rfl⟩))
    (fun os started H enc _ => lifted os started H enc)
end Go.Proofs.Ytcdoicndpecfiaa.topicApartFrame

namespace Go.Proofs.Ytcdoicndpecfiaa
/-- The statement. -/
theorem topicApart_holds : Rows.TopicApartSaid := topicApartFrame.over
#print axioms topicApart_holds
end Go.Proofs.Ytcdoicndpecfiaa
