/-
  TopicLasts: for every input the law returns true, and each argument reads afterwards as it read before. No condition.
-/
import Derived.Test.YtcdoicndpecfiaaGreatUl1
import Derived.Test.YtcdoicndpecfiaaGreatUl2
import Derived.Test.YtcdoicndpecfiaaGreatUl3
import Derived.Test.YtcdoicndpecfiaaGreatUl4
import Derived.Test.YtcdoicndpecfiaaGreatUl5
import Derived.Test.YtcdoicndpecfiaaGreatUl6
import Derived.Test.YtcdoicndpecfiaaGreatUl7
import Derived.Test.YtcdoicndpecfiaaGreatUl8
import Derived.Test.YtcdoicndpecfiaaGreatUl9
import Derived.Test.YtcdoicndpecfiaaGreatUl10
import Derived.Test.YtcdoicndpecfiaaGreatUl11
import Derived.Test.YtcdoicndpecfiaaGreatUl12
import Derived.Test.YtcdoicndpecfiaaGreatUl13
import Derived.Test.YtcdoicndpecfiaaGreatUl14
import Derived.Test.YtcdoicndpecfiaaGreatUl15
import Derived.Test.YtcdoicndpecfiaaGreatUl16
import Derived.Test.YtcdoicndpecfiaaGreatUl17
import Derived.Test.YtcdoicndpecfiaaGreatUl18
import Derived.Test.YtcdoicndpecfiaaGreatUl19
import Derived.Test.YtcdoicndpecfiaaGreatUl20
import Derived.Test.YtcdoicndpecfiaaGreatUl21
import Derived.Test.YtcdoicndpecfiaaGreatUl22
import Derived.Test.YtcdoicndpecfiaaGreatUl23
import Derived.Test.YtcdoicndpecfiaaGreatUl24
import Derived.Test.YtcdoicndpecfiaaGreatUl25
import Derived.Test.YtcdoicndpecfiaaGreatUl26
import Derived.Test.YtcdoicndpecfiaaGreatUl27
import Derived.Test.YtcdoicndpecfiaaGreatUl28
import Derived.Test.YtcdoicndpecfiaaGreatUl29
import Derived.Test.YtcdoicndpecfiaaGreatUl30
import Derived.Test.YtcdoicndpecfiaaGreatUl31
import Derived.ProofKit
import Derived.OpenShut
import Derived.ShutString
import Derived.ChangeOld
namespace Go.Proofs.YtcdoicndpecfiaaGreat.topicLastsFrame
open Go.ChangeShapes Go.WideShapes Go.ChangeAt Go.RowKit
open Go.ChangeMaps (open_string shut_string)
set_option linter.unusedVariables false

theorem own : ownKnob Tryz.prog.godebug = none := by kernel_rfl
theorem laidOut : laidOutB Tryz.prog = true := by kernel_rfl

set_option maxRecDepth 100000 in
theorem lifted (os : Os) (started : os.Started) (H : Type) (enc : TypeId × Value → H) :
    ReturnsInHanded {} Tryz.checked os 3 .any (Rows.topicLastsSpec.pre6 enc Tryz.prog Tryz.f3 Rows.topicLastsRow.domain false) (Rows.topicLastsSpec.post enc Tryz.prog Tryz.f3 false true false false) := by
  refine returnsInHanded_of_change (C := Tryz.checked) own started (by kernel_rfl) Tryz.func3
    (ChangeSpec.witness6 (enc := enc) (C := Tryz.checked) false ⟨#[], #[.slice none 0 0, .int .i64 0, .agg #[.slice none 0 0, .int .i64 0]], []⟩ 8 (by kernel_rfl) (by kernel_rfl) (by kernel_rfl) (by kernel_rfl)) ?_
  intro W base args ds gs before hval0 hW hcnd _
  have hval : ∀ (j : Nat) t v, Tryz.f3.params[j]? = some t → args[j]? = some v → Value.okWide Tryz.prog W .any base t v := hval0
  have hW' := hW
  obtain ⟨p, q, hA0, hV, rfl, hfz, hnd⟩ := hW
  have hA : DataW.TrodAll enc Tryz.prog W 0 (fun _ => true) true Tryz.f3.params.toList args.toList ds p := hA0
  rw [Tryz.params3] at hA hval
  obtain ⟨v0, vs0, d0, ds0, p0, q0, hargs, rfl, rfl, h0, r0⟩ := trodAll_cons hA
  obtain ⟨v1, vs1, d1, ds1, p1, q1, rfl, rfl, rfl, h1, r1⟩ := trodAll_cons r0
  obtain ⟨v2, vs2, d2, ds2, p2, q2, rfl, rfl, rfl, h2, r2⟩ := trodAll_cons r1
  obtain ⟨rfl, rfl, rfl⟩ := trodAll_nil r2
  obtain rfl : args = #[v0, v1, v2] := by cases args; simp_all
  obtain ⟨rfl, rfl⟩ := trodVars_none hV
  have k0 := h0
  have lt0 : ∀ x ∈ p0, x.block < W.heap.size := by obtain ⟨m, hm⟩ := k0; exact DataW.trod_lt m _ _ _ hm
  obtain ⟨la0, len0, cap0, rfl⟩ := okWide_slice Tryz.underlying22 (hval 0 22 v0 rfl rfl)
  obtain ⟨fu0, hf0⟩ := id h0
  obtain ⟨z0, s0, m0, r0'⟩ := open_tops hf0
  obtain ⟨a1, rfl, rfl, rfl, w1⟩ := open_int Tryz.underlying3 (hval 1 3 v1 rfl rfl) h1
  have k2 := h2
  have lt2 : ∀ x ∈ p2, x.block < W.heap.size := by obtain ⟨m, hm⟩ := k2; exact DataW.trod_lt m _ _ _ hm
  obtain ⟨c2_0, c2_1, y2_0, y2_1, n2, rfl, hd2, hp2, g2_0, g2_1⟩ := Go.Joins.open_agg2 Tryz.underlying25 (by kernel_rfl) (by kernel_rfl) (hval 2 25 v2 rfl rfl) h2
  obtain ⟨z2, s2, m2⟩ := ubools2_open g2_0
  obtain ⟨b2, e2, _, _⟩ := DataW.trod_int Tryz.underlying3 g2_1
  obtain rfl : c2_1 = _ := List.singleton_inj.1 e2
  clear hA0 hval0
  refine (walk_TopicLasts (.slice la0 len0 cap0) z0 a1 c2_0 z2 b2 W s0 m0 r0' w1 s2 m2).mono fun e W' ⟨he, bel⟩ => ?_
  subst he
  exact ⟨_, rfl, _, _, _, [], _, [], hW', trodAll_mk1 (shut_bool Tryz.underlying4 _), (trodAll_cons_mk (Below.trod laidOut (by kernel_rfl) (of_decide_eq_true (by kernel_rfl)) k0 bel lt0) (trodAll_cons_mk (shut_int Tryz.underlying3 w1) (trodAll_cons_mk (Below.trod laidOut (by kernel_rfl) (of_decide_eq_true (by kernel_rfl)) k2 bel lt2) trodAll_mk0))), rfl, bel.frame _, fun h => by cases h⟩

theorem over : Rows.topicLastsRow.holds Tryz.pinned (OpenSpec.ofChange Rows.topicLastsSpec) :=
  OpenClaim.holds_of_wide 3 Tryz.f3 rfl rfl rfl rfl rfl rfl rfl ⟨rfl, rfl, rfl, rfl, rfl⟩ rfl rfl rfl rfl rfl (by kernel_rfl) Tryz.func3 (by kernel_rfl)
    (of_decide_eq_true (by kernel_rfl)) (by unfold Func.isWrapper; first | (rw [if_pos (by decide +kernel)]; kernel_rfl) | (rw [if_neg (by decide +kernel)]; exact ⟨rfl, rfl⟩))
    (fun os started H enc _ => lifted os started H enc)
end Go.Proofs.YtcdoicndpecfiaaGreat.topicLastsFrame

namespace Go.Proofs.YtcdoicndpecfiaaGreat
/-- The statement. -/
theorem topicLasts_holds : Rows.TopicLastsSaid := topicLastsFrame.over
#print axioms topicLasts_holds
end Go.Proofs.YtcdoicndpecfiaaGreat
