/-
  Part 23: what the statement needs of these texts: SRow.
-/
import Derived.BigQuiet
import Derived.Deep.OwnRows
import Derived.Deep.QuietTactic
import Derived.IntWalk
import Derived.Laws.CopyOwn
import Derived.Laws.OwnMore
import Derived.Laws.RangeAny
import Derived.Lib.AppendZerosOnto
import Derived.Lib.Atoi
import Derived.Lib.AtoiErrMem
import Derived.Lib.BufferRead
import Derived.Lib.BufferWrite
import Derived.Lib.Hide
import Derived.Lib.IndexMore
import Derived.Lib.ItoaNum
import Derived.Lib.LaidTab
import Derived.Lib.Repeat
import Derived.Maps.AppendAt
import Derived.Maps.OwnSet
import Derived.Maps.RangeWalk
import Derived.Orders
import Derived.ProofKit
import Derived.Shelf.Slices.In.SortNone
import Derived.Shelf.Small.Wraps
import Derived.Shelf.Sort.Plain
import Derived.Shelf.Strings.Builder1
import Derived.Shelf.Strings.Prefix
import Derived.Shelf.Strings.Repeat
import Derived.Sort.OwnSorted
import Derived.StillTailTactics
import Derived.StringKeys
import Derived.Test.YtmmnoieafndgjaaProg
import Derived.Test.YtmmnoieafndgjaaRows
import Derived.WalkKit
import Derived.WalkLawsBesides
import Derived.WalkSpells
import Derived.Test.YtmmnoieafndgjaaHm2
import Derived.Test.YtmmnoieafndgjaaHm4
import Derived.Test.YtmmnoieafndgjaaHm6
import Derived.Test.YtmmnoieafndgjaaHm7
import Derived.Test.YtmmnoieafndgjaaHm9
import Derived.Test.YtmmnoieafndgjaaHm12
import Derived.Test.YtmmnoieafndgjaaHm13
import Derived.Test.YtmmnoieafndgjaaHm14
import Derived.Test.YtmmnoieafndgjaaHm15
import Derived.Test.YtmmnoieafndgjaaHm16
import Derived.Test.YtmmnoieafndgjaaHm17
import Derived.Test.YtmmnoieafndgjaaHm18
import Derived.Test.YtmmnoieafndgjaaHm22
namespace Go.Proofs.Ytmmnoieafndgjaa
open Go.RowKit Go.Deep

/-- What a row stands for, beside its disk. -/
structure RowM where
  head : ByteArray
  size : Int
  begin_ : Int
  end_ : Int
  next : Int
  synced : Int
  touched : Int
def RowM.cells (m : RowM) (d : Nat) : Array Value := #[.pointer (some ⟨d, 0, none⟩), .string m.head, .int .i64 m.size, .int .i64 m.begin_, .int .i64 m.end_, .int .i64 m.next, .int .i64 m.synced, .int .i64 m.touched]
/-- What a call leaves of the rest: but for the row and its disk all is as it was. -/
structure RowTo (w : World) (b : Nat) (g g' : Gh) (w' : World) : Prop where
  chg : Chg (fun k => k = b ∨ k ∈ g.fp) w w'
  fp : ∀ k ∈ g'.fp, k ∈ g.fp ∨ w.heap.size ≤ k
  d : g'.d = g.d
theorem RowTo.refl (w : World) (b : Nat) (g : Gh) : RowTo w b g g w := ⟨Chg.refl _ _, fun _ h => .inl h, rfl⟩
theorem RowTo.of {w : World} {b : Nat} {g g' : Gh} {w' : World} (h : Gh.To w g g' w') : RowTo w b g g' w' := ⟨h.chg.wide fun _ _ hk => .inr hk, h.fp, h.d⟩
theorem RowTo.trans {w w1 w2 : World} {b : Nat} {g g1 g2 : Gh} (h : RowTo w b g g1 w1) (k : RowTo w1 b g1 g2 w2) : RowTo w b g g2 w2 := by
  have hs := h.chg.size
  refine ⟨h.chg.trans k.chg (fun i hi hx => ?_), fun i hi => ?_, k.d.trans h.d⟩
  · rcases hx with h0 | hx
    · exact .inl h0
    · rcases h.fp i hx with h1 | h1
      · exact .inr h1
      · omega
  · rcases k.fp i hi with h1 | h1
    · exact h.fp i h1
    · exact .inr (by omega)
theorem RowTo.new {w w' : World} (b : Nat) (g : Gh) (hc : Chg (fun _ => False) w w') : RowTo w b g g w' := ⟨hc.wide (fun _ _ x => x.elim), fun _ h => .inl h, rfl⟩

end Go.Proofs.Ytmmnoieafndgjaa

