/-
  An array of two structs of four ints that came in by value.
-/
import Derived.Test.YtcbjlleigbnogaaWords
import Derived.Lib.SmallJoins
import Derived.OpenShut
import Derived.ProofKit
namespace Go.Proofs.Ytcbjlleigbnogaa
open Go.Joins Go.ChangeShapes Go.WideShapes Go.RowKit Go.Deep
set_option linter.unusedVariables false
set_option linter.unusedSimpArgs false

section
variable {H : Type} {enc : TypeId × Value → H} {P : Program} {w : World} {base : Nat} {spare : Nat → Bool} {held : Bool}
theorem four_ints {fuel : Nat} {e it : TypeId} {f0 f1 f2 f3 : Field} {c0 c1 c2 c3 : Value} {y : DataW H × List MemPlace} (hs : P.underlying e = some (.struct #[f0, f1, f2, f3])) (hone : oneCellFields P #[f0, f1, f2, f3] = true)
    (hi : P.underlying it = some (.int .i64)) (ht : f0.type = it ∧ f1.type = it ∧ f2.type = it ∧ f3.type = it) (hf : DataW.trod enc P w base spare held fuel e [c0, c1, c2, c3] = some y) :
    ∃ b0 b1 b2 b3 : Int, c0 = .int .i64 b0 ∧ c1 = .int .i64 b1 ∧ c2 = .int .i64 b2 ∧ c3 = .int .i64 b3 := by
  obtain ⟨xs, n, _, hx, _, hlen, hg⟩ := DataW.trod_struct hs hf
  obtain ⟨o0, k0⟩ := hone_of hone 0 f0 rfl
  obtain ⟨o1, k1⟩ := hone_of hone 1 f1 rfl
  obtain ⟨o2, k2⟩ := hone_of hone 2 f2 rfl
  obtain ⟨o3, k3⟩ := hone_of hone 3 f3 rfl
  match xs, hlen with
  | [y0, y1, y2, y3], _ =>
    have g0 : DataW.trod enc P w base spare held n f0.type [c0] = some y0 := by simpa [o0, k0] using hg 0 f0 rfl
    have g1 : DataW.trod enc P w base spare held n f1.type [c1] = some y1 := by simpa [o1, k1] using hg 1 f1 rfl
    have g2 : DataW.trod enc P w base spare held n f2.type [c2] = some y2 := by simpa [o2, k2] using hg 2 f2 rfl
    have g3 : DataW.trod enc P w base spare held n f3.type [c3] = some y3 := by simpa [o3, k3] using hg 3 f3 rfl
    rw [ht.1] at g0
    rw [ht.2.1] at g1
    rw [ht.2.2.1] at g2
    rw [ht.2.2.2] at g3
    obtain ⟨b0, e0, _, _⟩ := DataW.trod_int hi g0
    obtain ⟨b1, e1, _, _⟩ := DataW.trod_int hi g1
    obtain ⟨b2, e2, _, _⟩ := DataW.trod_int hi g2
    obtain ⟨b3, e3, _, _⟩ := DataW.trod_int hi g3
    exact ⟨b0, b1, b2, b3, List.singleton_inj.1 e0, List.singleton_inj.1 e1, List.singleton_inj.1 e2, List.singleton_inj.1 e3⟩

theorem open_arr2 {r : Reach} {b0 : Nat} {t e it : TypeId} {f0 f1 f2 f3 : Field} {v : Value} {d : DataW H} {p : List MemPlace} (ha : P.underlying t = some (.array 2 e)) (hs : P.underlying e = some (.struct #[f0, f1, f2, f3])) (hone : oneCellFields P #[f0, f1, f2, f3] = true)
    (hi : P.underlying it = some (.int .i64)) (ht : f0.type = it ∧ f1.type = it ∧ f2.type = it ∧ f3.type = it) (hC : P.cellsOf t = 8) (hE : P.cellsOf e = 4)
    (hv : Value.okWide P w r b0 t v) (h : DataW.Trod enc P w base spare held t v d p) :
    ∃ b0 b1 b2 b3 b4 b5 b6 b7 : Int, v = .agg #[.int .i64 b0, .int .i64 b1, .int .i64 b2, .int .i64 b3, .int .i64 b4, .int .i64 b5, .int .i64 b6, .int .i64 b7] := by
  simp only [Value.okWide, ha] at hv
  obtain ⟨cs, rfl, hsz, _⟩ := hv
  obtain ⟨l⟩ := cs
  match l, hsz.trans hC with
  | [c0, c1, c2, c3, c4, c5, c6, c7], _ =>
    obtain ⟨fuel, hf⟩ := h
    obtain ⟨xs, m, _, _, _, hl, hg⟩ := DataW.trod_array ha hf
    match xs, hl with
    | [y0, y1], _ =>
      have g0 : DataW.trod enc P w base spare held m e [c0, c1, c2, c3] = some y0 := by simpa [Value.cells, hE] using hg 0 (by decide)
      have g1 : DataW.trod enc P w base spare held m e [c4, c5, c6, c7] = some y1 := by simpa [Value.cells, hE] using hg 1 (by decide)
      obtain ⟨z0, z1, z2, z3, rfl, rfl, rfl, rfl⟩ := four_ints hs hone hi ht g0
      obtain ⟨z4, z5, z6, z7, rfl, rfl, rfl, rfl⟩ := four_ints hs hone hi ht g1
      exact ⟨z0, z1, z2, z3, z4, z5, z6, z7, rfl⟩
end
theorem open_places {H : Type} {enc : TypeId × Value → H} {w : World} {r : Reach} {bb : Nat} {v : Value} {d : DataW H} {p : List MemPlace} (hv : Value.okWide Try.prog w r bb 44 v) (h : DataW.Trod enc Try.prog w 0 (fun _ => true) true 44 v d p) :
    ∃ b0 b1 b2 b3 b4 b5 b6 b7 : Int, v = .agg #[.int .i64 b0, .int .i64 b1, .int .i64 b2, .int .i64 b3, .int .i64 b4, .int .i64 b5, .int .i64 b6, .int .i64 b7] :=
  open_arr2 Try.underlying44 Try.underlying23 (by kernel_rfl) Try.underlying3 ⟨rfl, rfl, rfl, rfl⟩ (by kernel_rfl) (by kernel_rfl) hv h
theorem open_marks {H : Type} {enc : TypeId × Value → H} {w : World} {r : Reach} {bb : Nat} {v : Value} {d : DataW H} {p : List MemPlace} (hv : Value.okWide Try.prog w r bb 45 v) (h : DataW.Trod enc Try.prog w 0 (fun _ => true) true 45 v d p) :
    ∃ b0 b1 b2 b3 b4 b5 b6 b7 : Int, v = .agg #[.int .i64 b0, .int .i64 b1, .int .i64 b2, .int .i64 b3, .int .i64 b4, .int .i64 b5, .int .i64 b6, .int .i64 b7] :=
  open_arr2 Try.underlying45 Try.underlying27 (by kernel_rfl) Try.underlying3 ⟨rfl, rfl, rfl, rfl⟩ (by kernel_rfl) (by kernel_rfl) hv h
end Go.Proofs.Ytcbjlleigbnogaa
