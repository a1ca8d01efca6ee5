/-
  Part 33: what the statement needs of these texts: QSeekW.
-/
import Derived.BigQuiet
import Derived.BigRegion
import Derived.Deep.OwnRows
import Derived.Deep.QuietTactic
import Derived.Deep.RegionHeld3
import Derived.DeepKeys4
import Derived.IntWalk
import Derived.Laws.CopyOwn
import Derived.Laws.OwnMore
import Derived.Laws.RangeAny
import Derived.Lib.AppendStr
import Derived.Lib.AppendZerosOnto
import Derived.Lib.Atoi
import Derived.Lib.AtoiErrMem
import Derived.Lib.BufferRead
import Derived.Lib.BufferWrite
import Derived.Lib.Builder
import Derived.Lib.Hide
import Derived.Lib.ItoaNum
import Derived.Lib.LaidTab
import Derived.Lib.MinMax
import Derived.Lib.OthersKept
import Derived.Lib.Repeat
import Derived.Lib.Slices
import Derived.Lib.Strings
import Derived.Lib.UnsafeStr
import Derived.Maps.AppendAt
import Derived.Maps.OwnSet
import Derived.Maps.RangeWalk
import Derived.Orders
import Derived.ProofKit
import Derived.RowKit
import Derived.Shelf.GgClosure.StringsIndexFunc
import Derived.Shelf.GgClosure.StringsIndexFuncTop
import Derived.Shelf.LaysM
import Derived.Shelf.SlSortCmp.NoneTotal
import Derived.Shelf.Slices.In.SortNone
import Derived.Shelf.Slices.SearchI
import Derived.Shelf.Small.Wraps
import Derived.Shelf.Sort.Plain
import Derived.Shelf.Strconv.Atoi
import Derived.Shelf.Strconv.Itoa3
import Derived.Shelf.Strings.Builder1
import Derived.Shelf.Strings.Prefix
import Derived.Shelf.Strings.Repeat
import Derived.Sort.KeysCollected
import Derived.Sort.OwnSorted
import Derived.StillTailTactics
import Derived.StringKeys
import Derived.Test.YthfjgpchbbbjiaaGreatDoorProg
import Derived.Test.YthfjgpchbbbjiaaGreatDoorRows
import Derived.WalkKit
import Derived.WalkLawsBesides
import Derived.WalkSmall
import Derived.WalkSpells
import Derived.Test.YthfjgpchbbbjiaaGreatDoorFi1
import Derived.Test.YthfjgpchbbbjiaaGreatDoorFi2
import Derived.Test.YthfjgpchbbbjiaaGreatDoorFi3
import Derived.Test.YthfjgpchbbbjiaaGreatDoorFi4
import Derived.Test.YthfjgpchbbbjiaaGreatDoorFi5
import Derived.Test.YthfjgpchbbbjiaaGreatDoorFi6
import Derived.Test.YthfjgpchbbbjiaaGreatDoorFi7
import Derived.Test.YthfjgpchbbbjiaaGreatDoorFi8
import Derived.Test.YthfjgpchbbbjiaaGreatDoorFi9
import Derived.Test.YthfjgpchbbbjiaaGreatDoorFi10
import Derived.Test.YthfjgpchbbbjiaaGreatDoorFi11
import Derived.Test.YthfjgpchbbbjiaaGreatDoorFi12
import Derived.Test.YthfjgpchbbbjiaaGreatDoorFi13
import Derived.Test.YthfjgpchbbbjiaaGreatDoorFi14
import Derived.Test.YthfjgpchbbbjiaaGreatDoorFi15
import Derived.Test.YthfjgpchbbbjiaaGreatDoorFi16
import Derived.Test.YthfjgpchbbbjiaaGreatDoorFi17
import Derived.Test.YthfjgpchbbbjiaaGreatDoorFi18
import Derived.Test.YthfjgpchbbbjiaaGreatDoorFi19
import Derived.Test.YthfjgpchbbbjiaaGreatDoorFi20
import Derived.Test.YthfjgpchbbbjiaaGreatDoorFi21
import Derived.Test.YthfjgpchbbbjiaaGreatDoorFi22
import Derived.Test.YthfjgpchbbbjiaaGreatDoorFi25
import Derived.Test.YthfjgpchbbbjiaaGreatDoorFi26
import Derived.Test.YthfjgpchbbbjiaaGreatDoorFi27
import Derived.Test.YthfjgpchbbbjiaaGreatDoorFi28
import Derived.Test.YthfjgpchbbbjiaaGreatDoorFi29
import Derived.Test.YthfjgpchbbbjiaaGreatDoorFi30
import Derived.Test.YthfjgpchbbbjiaaGreatDoorFi31
import Derived.Test.YthfjgpchbbbjiaaGreatDoorFi32
namespace Go.Proofs.YthfjgpchbbbjiaaGreatDoor
open Go.RowKit Go.Deep
set_option linter.unusedVariables false
set_option linter.unusedSimpArgs false

theorem qchg_below {w w' : World} (h : Chg (fun _ => False) w w') : Below w.heap.size w w' := ⟨h.os, h.tape, h.output, h.size, fun i hi => h.block i hi (fun x => x)⟩
theorem fit_small {i d : Int} (h0 : 0 ≤ i) (h1 : i ≤ 1000000) (d0 : 0 ≤ d) (d1 : d ≤ 1000000) : (⟨i, 0, 0, d⟩ : PlM).fit = true := by
  unfold PlM.fit
  rw [fit4_iff]
  intro k hk
  match k, hk with
  | 0, _ => exact ⟨h0, by show i < 256 ^ 6; omega⟩
  | 1, _ => exact ⟨Int.le_refl 0, by show (0 : Int) < 256 ^ 2; decide⟩
  | 2, _ => exact ⟨Int.le_refl 0, by show (0 : Int) < 256 ^ 5; decide⟩
  | 3, _ => exact ⟨d0, by show d < 256 ^ 7; omega⟩
theorem u8_wf {n : Int} (h : (Lit.int .u8 n).wf = true) : 0 ≤ n ∧ n ≤ 255 := by
  have h2 : IntKind.u8.min ≤ n ∧ n ≤ IntKind.u8.max := by simpa [Lit.wf] using h
  rw [show IntKind.u8.min = (0 : Int) from by decide, show IntKind.u8.max = (255 : Int) from by decide] at h2
  exact h2
end Go.Proofs.YthfjgpchbbbjiaaGreatDoor

