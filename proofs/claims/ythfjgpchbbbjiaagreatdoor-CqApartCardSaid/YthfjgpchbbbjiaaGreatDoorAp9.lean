/-
  Part 9: what the statement needs of these texts: OpenB2.
-/
import Derived.BigQuiet
import Derived.Deep.OwnRows
import Derived.Deep.QuietTactic
import Derived.Lib.Hide
import Derived.Lib.SmallJoins
import Derived.OpenShut
import Derived.ProofKit
import Derived.Test.YthfjgpchbbbjiaaGreatDoorRows
import Derived.WalkKit
import Derived.WalkLawsBesides
import Derived.WalkSpells
import Derived.Test.YthfjgpchbbbjiaaGreatDoorAp4
namespace Go.Proofs.YthfjgpchbbbjiaaGreatDoor
open Go.Joins Go.ChangeShapes Go.WideShapes Go.RowKit Go.Deep
set_option linter.unusedVariables false
set_option linter.unusedSimpArgs false

set_option maxRecDepth 100000 in
theorem open_two8 {H : Type} {enc : TypeId × Value → H} {w : World} {r : Reach} {bb : Nat} {v : Value} {d : DataW H} {p : List MemPlace} (hv : Value.okWide Tryz.prog w r bb 59 v) (h : DataW.Trod enc Tryz.prog w 0 (fun _ => true) true 59 v d p) :
    ∃ b0 b1 : Int, v = .agg #[.int .u8 b0, .int .u8 b1] ∧ (Lit.int .u8 b0).wf = true ∧ (Lit.int .u8 b1).wf = true := by
  have ha := Tryz.underlying59
  have hC : Tryz.prog.cellsOf 59 = 2 := by kernel_rfl
  have hE : Tryz.prog.cellsOf 5 = 1 := by kernel_rfl
  simp only [Value.okWide, ha] at hv
  obtain ⟨cs, rfl, hsz, _⟩ := hv
  obtain ⟨l⟩ := cs
  match l, hsz.trans hC with
  | [c0, c1], _ =>
    obtain ⟨fuel, hf⟩ := h
    obtain ⟨xs, m, _, _, _, hl, hg⟩ := DataW.trod_array ha hf
    match xs, hl with
    | [y0, y1], _ =>
      have g0 : DataW.trod enc Tryz.prog w 0 (fun _ => true) true m 5 [c0] = some y0 := by simpa [Value.cells, hE] using hg 0 (by decide)
      have g1 : DataW.trod enc Tryz.prog w 0 (fun _ => true) true m 5 [c1] = some y1 := by simpa [Value.cells, hE] using hg 1 (by decide)
      obtain ⟨z0, e0, _, w0⟩ := DataW.trod_int Tryz.underlying5 g0
      obtain ⟨z1, e1, _, w1⟩ := DataW.trod_int Tryz.underlying5 g1
      obtain rfl : c0 = _ := List.singleton_inj.1 e0
      obtain rfl : c1 = _ := List.singleton_inj.1 e1
      exact ⟨z0, z1, rfl, w0, w1⟩
end Go.Proofs.YthfjgpchbbbjiaaGreatDoor

