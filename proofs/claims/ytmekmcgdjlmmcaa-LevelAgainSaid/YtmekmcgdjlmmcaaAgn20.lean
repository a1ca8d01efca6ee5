/-
  Part 20: what the statement needs of these texts: LvH.
-/
import Derived.BigQuiet
import Derived.Deep.DeepCutAuto
import Derived.Deep.DeepMust
import Derived.Deep.OwnRows
import Derived.Deep.QuietTactic
import Derived.Deep.RegionHeld3
import Derived.Deep.RegionLaw
import Derived.Deep.RegionWith
import Derived.Defers
import Derived.IntWalk
import Derived.Laws.BitsAllLaws
import Derived.Laws.PanicsMore
import Derived.Laws.Rows
import Derived.Laws.StructEq
import Derived.Lib.AppendStr
import Derived.Lib.Hide
import Derived.Lib.MinMax
import Derived.Lib.OthersKept
import Derived.Lib.Repeat
import Derived.Lib.SmallJoins
import Derived.Orders
import Derived.ProofKit
import Derived.Recover
import Derived.Shelf.Strings.Builder1
import Derived.Shelf.Strings.Prefix
import Derived.Shelf.Strings.Repeat
import Derived.StillTailTactics
import Derived.Test.YtmekmcgdjlmmcaaProg
import Derived.Test.YtmekmcgdjlmmcaaRows
import Derived.WalkKit
import Derived.WalkLawsBesides
import Derived.WalkSmall
import Derived.WalkSpells
import Derived.Test.YtmekmcgdjlmmcaaAgn1
import Derived.Test.YtmekmcgdjlmmcaaAgn2
import Derived.Test.YtmekmcgdjlmmcaaAgn3
import Derived.Test.YtmekmcgdjlmmcaaAgn4
import Derived.Test.YtmekmcgdjlmmcaaAgn5
import Derived.Test.YtmekmcgdjlmmcaaAgn6
import Derived.Test.YtmekmcgdjlmmcaaAgn7
import Derived.Test.YtmekmcgdjlmmcaaAgn8
import Derived.Test.YtmekmcgdjlmmcaaAgn9
import Derived.Test.YtmekmcgdjlmmcaaAgn10
import Derived.Test.YtmekmcgdjlmmcaaAgn11
import Derived.Test.YtmekmcgdjlmmcaaAgn12
import Derived.Test.YtmekmcgdjlmmcaaAgn13
import Derived.Test.YtmekmcgdjlmmcaaAgn14
import Derived.Test.YtmekmcgdjlmmcaaAgn15
import Derived.Test.YtmekmcgdjlmmcaaAgn16
import Derived.Test.YtmekmcgdjlmmcaaAgn17
import Derived.Test.YtmekmcgdjlmmcaaAgn18
import Derived.Test.YtmekmcgdjlmmcaaAgn19
namespace Go.Proofs.Ytmekmcgdjlmmcaa
open Go.RowKit Go.Deep

set_option maxRecDepth 100000 in
theorem open_twoi {H : Type} {enc : TypeId × Value → H} {w : World} {r : Reach} {bb : Nat} {v : Value} {d : DataW H} {p : List MemPlace} (hv : Value.okWide Try.prog w r bb 25 v) (h : DataW.Trod enc Try.prog w 0 (fun _ => true) true 25 v d p) :
    ∃ b0 b1 : Int, v = .agg #[.int .i64 b0, .int .i64 b1] ∧ (Lit.int .i64 b0).wf = true ∧ (Lit.int .i64 b1).wf = true := by
  have ha := Try.underlying25
  have hC : Try.prog.cellsOf 25 = 2 := by kernel_rfl
  have hE : Try.prog.cellsOf 3 = 1 := by kernel_rfl
  simp only [Value.okWide, ha] at hv
  obtain ⟨cs, rfl, hsz, _⟩ := hv
  obtain ⟨l⟩ := cs
  match l, hsz.trans hC with
  | [c0, c1], _ =>
    obtain ⟨fuel, hf⟩ := h
    obtain ⟨xs, m, _, _, _, hl, hg⟩ := DataW.trod_array ha hf
    match xs, hl with
    | [y0, y1], _ =>
      have g0 : DataW.trod enc Try.prog w 0 (fun _ => true) true m 3 [c0] = some y0 := by simpa [Value.cells, hE] using hg 0 (by decide)
      have g1 : DataW.trod enc Try.prog w 0 (fun _ => true) true m 3 [c1] = some y1 := by simpa [Value.cells, hE] using hg 1 (by decide)
      obtain ⟨z0, e0, _, w0⟩ := DataW.trod_int Try.underlying3 g0
      obtain ⟨z1, e1, _, w1⟩ := DataW.trod_int Try.underlying3 g1
      obtain rfl : c0 = _ := List.singleton_inj.1 e0
      obtain rfl : c1 = _ := List.singleton_inj.1 e1
      exact ⟨z0, z1, rfl, w0, w1⟩
theorem walk_LevelAgain (a : MsgM) (va : Value) (s : ByteArray) (b0 b1 : Int) (w : World) {P : Prop} (sa : Sized w (a, va)) (ca : CapOk va) (_ : P) :
    Calls Try.prog 3 #[a.val va, .string s, .agg #[.int .i64 b0, .int .i64 b1]] w fun e w' => e = .returned (.bool true) ∧ Below w.heap.size w w' := again_law a va s b0 b1 w sa ca
end Go.Proofs.Ytmekmcgdjlmmcaa

