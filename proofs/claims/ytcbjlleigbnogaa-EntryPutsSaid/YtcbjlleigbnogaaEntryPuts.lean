/-
  EntryPuts: for every input the law returns true, and each argument reads afterwards as it read before. No condition.
-/
import Derived.Test.YtcbjlleigbnogaaEntH
import Derived.Lib.SmallJoins
import Derived.ProofKit
import Derived.OpenShut
import Derived.ShutString
import Derived.ChangeOld
namespace Go.Proofs.Ytcbjlleigbnogaa.entryPutsFrame
open Go.ChangeShapes Go.WideShapes Go.ChangeAt Go.RowKit
open Go.ChangeMaps (open_string shut_string)
open Go.Joins
set_option linter.unusedVariables false

theorem own : ownKnob Try.prog.godebug = none := by kernel_rfl
theorem laidOut : laidOutB Try.prog = true := by kernel_rfl

set_option maxRecDepth 100000 in
theorem lifted (os : Os) (started : os.Started) (H : Type) (enc : TypeId × Value → H) :
    ReturnsInHanded {} Try.checked os 3 .any (Rows.entryPutsSpec.pre6 enc Try.prog Try.f3 Rows.entryPutsRow.domain false) (Rows.entryPutsSpec.post enc Try.prog Try.f3 false true false false) := by
  refine returnsInHanded_of_change (C := Try.checked) own started (by kernel_rfl) Try.func3
    (ChangeSpec.witness6 (enc := enc) (C := Try.checked) false ⟨#[], #[.agg #[.int .i64 0, .int .i64 0, .int .i64 0, .int .i64 0], .agg #[.int .i64 0, .int .i64 0, .int .i64 0, .int .i64 0], .agg #[.int .i64 0, .int .i64 0, .int .i64 0, .int .i64 0]], []⟩ 8 (by kernel_rfl) (by kernel_rfl) (by kernel_rfl) (by kernel_rfl)) ?_
  intro W base args ds gs before hval0 hW hcnd _
  have hval : ∀ (j : Nat) t v, Try.f3.params[j]? = some t → args[j]? = some v → Value.okWide Try.prog W .any base t v := hval0
  have hW' := hW
  obtain ⟨p, q, hA0, hV, rfl, hfz, hnd⟩ := hW
  have hA : DataW.TrodAll enc Try.prog W 0 (fun _ => true) true Try.f3.params.toList args.toList ds p := hA0
  rw [Try.params3] at hA hval
  obtain ⟨v0, vs0, d0, ds0, p0, q0, hargs, rfl, rfl, h0, r0⟩ := trodAll_cons hA
  obtain ⟨v1, vs1, d1, ds1, p1, q1, rfl, rfl, rfl, h1, r1⟩ := trodAll_cons r0
  obtain ⟨v2, vs2, d2, ds2, p2, q2, rfl, rfl, rfl, h2, r2⟩ := trodAll_cons r1
  obtain ⟨rfl, rfl, rfl⟩ := trodAll_nil r2
  obtain rfl : args = #[v0, v1, v2] := by cases args; simp_all
  obtain ⟨rfl, rfl⟩ := trodVars_none hV
  have k0 := h0
  have lt0 : ∀ x ∈ p0, x.block < W.heap.size := by obtain ⟨m, hm⟩ := k0; exact DataW.trod_lt m _ _ _ hm
  obtain ⟨c0_0, c0_1, c0_2, c0_3, y0_0, y0_1, y0_2, y0_3, m0, rfl, hd0, hp0, g0_0, g0_1, g0_2, g0_3⟩ := Go.Joins.open_agg4 Try.underlying23 (by kernel_rfl) (by kernel_rfl) (hval 0 23 v0 rfl rfl) h0
  obtain ⟨b0_0, e0_0, _, _⟩ := DataW.trod_int Try.underlying3 g0_0
  obtain rfl : c0_0 = _ := List.singleton_inj.1 e0_0
  obtain ⟨b0_1, e0_1, _, _⟩ := DataW.trod_int Try.underlying3 g0_1
  obtain rfl : c0_1 = _ := List.singleton_inj.1 e0_1
  obtain ⟨b0_2, e0_2, _, _⟩ := DataW.trod_int Try.underlying3 g0_2
  obtain rfl : c0_2 = _ := List.singleton_inj.1 e0_2
  obtain ⟨b0_3, e0_3, _, _⟩ := DataW.trod_int Try.underlying3 g0_3
  obtain rfl : c0_3 = _ := List.singleton_inj.1 e0_3
  have k1 := h1
  have lt1 : ∀ x ∈ p1, x.block < W.heap.size := by obtain ⟨m, hm⟩ := k1; exact DataW.trod_lt m _ _ _ hm
  obtain ⟨c1_0, c1_1, c1_2, c1_3, y1_0, y1_1, y1_2, y1_3, m1, rfl, hd1, hp1, g1_0, g1_1, g1_2, g1_3⟩ := Go.Joins.open_agg4 Try.underlying25 (by kernel_rfl) (by kernel_rfl) (hval 1 25 v1 rfl rfl) h1
  obtain ⟨b1_0, e1_0, _, _⟩ := DataW.trod_int Try.underlying3 g1_0
  obtain rfl : c1_0 = _ := List.singleton_inj.1 e1_0
  obtain ⟨b1_1, e1_1, _, _⟩ := DataW.trod_int Try.underlying3 g1_1
  obtain rfl : c1_1 = _ := List.singleton_inj.1 e1_1
  obtain ⟨b1_2, e1_2, _, _⟩ := DataW.trod_int Try.underlying3 g1_2
  obtain rfl : c1_2 = _ := List.singleton_inj.1 e1_2
  obtain ⟨b1_3, e1_3, _, _⟩ := DataW.trod_int Try.underlying3 g1_3
  obtain rfl : c1_3 = _ := List.singleton_inj.1 e1_3
  have k2 := h2
  have lt2 : ∀ x ∈ p2, x.block < W.heap.size := by obtain ⟨m, hm⟩ := k2; exact DataW.trod_lt m _ _ _ hm
  obtain ⟨c2_0, c2_1, c2_2, c2_3, y2_0, y2_1, y2_2, y2_3, m2, rfl, hd2, hp2, g2_0, g2_1, g2_2, g2_3⟩ := Go.Joins.open_agg4 Try.underlying27 (by kernel_rfl) (by kernel_rfl) (hval 2 27 v2 rfl rfl) h2
  obtain ⟨b2_0, e2_0, _, _⟩ := DataW.trod_int Try.underlying3 g2_0
  obtain rfl : c2_0 = _ := List.singleton_inj.1 e2_0
  obtain ⟨b2_1, e2_1, _, _⟩ := DataW.trod_int Try.underlying3 g2_1
  obtain rfl : c2_1 = _ := List.singleton_inj.1 e2_1
  obtain ⟨b2_2, e2_2, _, _⟩ := DataW.trod_int Try.underlying3 g2_2
  obtain rfl : c2_2 = _ := List.singleton_inj.1 e2_2
  obtain ⟨b2_3, e2_3, _, _⟩ := DataW.trod_int Try.underlying3 g2_3
  obtain rfl : c2_3 = _ := List.singleton_inj.1 e2_3
  clear hA0 hval0
  refine (walk_EntryPuts b0_0 b0_1 b0_2 b0_3 b1_0 b1_1 b1_2 b1_3 b2_0 b2_1 b2_2 b2_3 W ).mono fun e W' ⟨he, bel⟩ => ?_
  subst he
  exact ⟨_, rfl, _, _, _, [], _, [], hW', trodAll_mk1 (shut_bool Try.underlying4 _), (trodAll_cons_mk (Below.trod laidOut (by kernel_rfl) (of_decide_eq_true (by kernel_rfl)) k0 bel lt0) (trodAll_cons_mk (Below.trod laidOut (by kernel_rfl) (of_decide_eq_true (by kernel_rfl)) k1 bel lt1) (trodAll_cons_mk (Below.trod laidOut (by kernel_rfl) (of_decide_eq_true (by kernel_rfl)) k2 bel lt2) trodAll_mk0))), rfl, bel.frame _, fun h => by cases h⟩

theorem over : Rows.entryPutsRow.holds Try.pinned (OpenSpec.ofChange Rows.entryPutsSpec) :=
  OpenClaim.holds_of_wide 3 Try.f3 rfl rfl rfl rfl rfl rfl rfl ⟨rfl, rfl, rfl, rfl, rfl⟩ rfl rfl rfl rfl rfl (by kernel_rfl) Try.func3 (by kernel_rfl)
    (of_decide_eq_true (by kernel_rfl)) (by unfold Func.isWrapper; first | (rw [if_pos (by decide +kernel)]; kernel_rfl) | (rw [if_neg (by decide +kernel)]; exact ⟨rfl, rfl⟩))
    (fun os started H enc _ => lifted os started H enc)
end Go.Proofs.Ytcbjlleigbnogaa.entryPutsFrame

namespace Go.Proofs.Ytcbjlleigbnogaa
/-- The statement. -/
theorem entryPuts_holds : Rows.EntryPutsSaid := entryPutsFrame.over
#print axioms entryPuts_holds
end Go.Proofs.Ytcbjlleigbnogaa
