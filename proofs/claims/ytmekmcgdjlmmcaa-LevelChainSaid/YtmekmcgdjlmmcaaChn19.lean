/-
  Part 19: what the statement needs of these texts: LvJ.
-/
import Derived.BigQuiet
import Derived.Deep.DeepCutAuto
import Derived.Deep.DeepMust
import Derived.Deep.OwnRows
import Derived.Deep.QuietTactic
import Derived.Deep.RegionHeld3
import Derived.Deep.RegionLaw
import Derived.Deep.RegionWith
import Derived.Defers
import Derived.IntWalk
import Derived.Laws.BitsAllLaws
import Derived.Laws.PanicsMore
import Derived.Laws.Rows
import Derived.Laws.StructEq
import Derived.Lib.AppendStr
import Derived.Lib.Hide
import Derived.Lib.MinMax
import Derived.Lib.OthersKept
import Derived.Lib.Repeat
import Derived.Lib.SmallJoins
import Derived.Orders
import Derived.ProofKit
import Derived.Recover
import Derived.Shelf.Strings.Builder1
import Derived.Shelf.Strings.Prefix
import Derived.Shelf.Strings.Repeat
import Derived.StillTailTactics
import Derived.Test.YtmekmcgdjlmmcaaProg
import Derived.Test.YtmekmcgdjlmmcaaRows
import Derived.WalkKit
import Derived.WalkLawsBesides
import Derived.WalkSmall
import Derived.WalkSpells
import Derived.Test.YtmekmcgdjlmmcaaChn1
import Derived.Test.YtmekmcgdjlmmcaaChn2
import Derived.Test.YtmekmcgdjlmmcaaChn3
import Derived.Test.YtmekmcgdjlmmcaaChn4
import Derived.Test.YtmekmcgdjlmmcaaChn5
import Derived.Test.YtmekmcgdjlmmcaaChn6
import Derived.Test.YtmekmcgdjlmmcaaChn7
import Derived.Test.YtmekmcgdjlmmcaaChn8
import Derived.Test.YtmekmcgdjlmmcaaChn9
import Derived.Test.YtmekmcgdjlmmcaaChn10
import Derived.Test.YtmekmcgdjlmmcaaChn11
import Derived.Test.YtmekmcgdjlmmcaaChn12
import Derived.Test.YtmekmcgdjlmmcaaChn13
import Derived.Test.YtmekmcgdjlmmcaaChn14
import Derived.Test.YtmekmcgdjlmmcaaChn15
import Derived.Test.YtmekmcgdjlmmcaaChn16
import Derived.Test.YtmekmcgdjlmmcaaChn17
import Derived.Test.YtmekmcgdjlmmcaaChn18
namespace Go.Proofs.Ytmekmcgdjlmmcaa
open Go.RowKit Go.Deep

theorem walk_LevelChain (a : MsgM) (va : Value) (s : ByteArray) (n : Int) (w : World) {P : Prop} (sa : Sized w (a, va)) (ca : CapOk va) (_ : P) (hn : (Lit.int .u32 n).wf = true) :
    Calls Try.prog 4 #[a.val va, .string s, .int .u32 n] w fun e w' => e = .returned (.bool true) ∧ Below w.heap.size w w' := chain_law a va s n w sa ca (u32_wf hn)
end Go.Proofs.Ytmekmcgdjlmmcaa

