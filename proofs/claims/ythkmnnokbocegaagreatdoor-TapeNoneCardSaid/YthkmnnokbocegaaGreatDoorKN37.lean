/-
  Part 37: what the statement needs of these texts: TNil, TNil2.
-/
import Derived.BigQuiet
import Derived.BigRegion
import Derived.Deep.DeepCutAuto
import Derived.Deep.DeepMust
import Derived.Deep.OwnRows
import Derived.Deep.QuietTactic
import Derived.Deep.RegionHeld3
import Derived.Deep.RegionLaw
import Derived.Defers
import Derived.IntWalk
import Derived.Laws.BitsAllLaws
import Derived.Laws.CopyOwn
import Derived.Laws.OwnMore
import Derived.Laws.PanicsMore
import Derived.Laws.RangeAny
import Derived.Laws.Rows
import Derived.Laws.StructEq
import Derived.Lib.AppendStr
import Derived.Lib.AppendZerosOnto
import Derived.Lib.Atoi
import Derived.Lib.AtoiErrMem
import Derived.Lib.BufferRead
import Derived.Lib.BufferWrite
import Derived.Lib.Hide
import Derived.Lib.ItoaNum
import Derived.Lib.LaidTab
import Derived.Lib.OthersKept
import Derived.Lib.Repeat
import Derived.Lib.SliceRun
import Derived.Maps.AppendAt
import Derived.Maps.OwnSet
import Derived.Maps.RangeWalk
import Derived.Orders
import Derived.ProofKit
import Derived.Recover
import Derived.Shelf.GgClosure.StringsIndexFunc
import Derived.Shelf.GgClosure.StringsIndexFuncTop
import Derived.Shelf.LaysM
import Derived.Shelf.SlSortCmp.NoneTotal
import Derived.Shelf.Slices.Clone
import Derived.Shelf.Slices.In.SortNone
import Derived.Shelf.Slices.SearchI
import Derived.Shelf.Slices.Turned
import Derived.Shelf.Small.Wraps
import Derived.Shelf.Sort.Plain
import Derived.Shelf.Strconv.Atoi
import Derived.Shelf.Strconv.Itoa3
import Derived.Shelf.Strings.Builder1
import Derived.Shelf.Strings.Prefix
import Derived.Shelf.Strings.Repeat
import Derived.Sort.KeysCollected
import Derived.Sort.OwnSorted
import Derived.StillTailTactics
import Derived.StringKeys
import Derived.Test.YthkmnnokbocegaaGreatDoorProg
import Derived.Test.YthkmnnokbocegaaGreatDoorRows
import Derived.WalkKit
import Derived.WalkLawsBesides
import Derived.WalkSmall
import Derived.WalkSpells
import Derived.Test.YthkmnnokbocegaaGreatDoorKN1
import Derived.Test.YthkmnnokbocegaaGreatDoorKN3
import Derived.Test.YthkmnnokbocegaaGreatDoorKN4
import Derived.Test.YthkmnnokbocegaaGreatDoorKN5
import Derived.Test.YthkmnnokbocegaaGreatDoorKN6
import Derived.Test.YthkmnnokbocegaaGreatDoorKN7
import Derived.Test.YthkmnnokbocegaaGreatDoorKN8
import Derived.Test.YthkmnnokbocegaaGreatDoorKN9
import Derived.Test.YthkmnnokbocegaaGreatDoorKN10
import Derived.Test.YthkmnnokbocegaaGreatDoorKN11
import Derived.Test.YthkmnnokbocegaaGreatDoorKN12
import Derived.Test.YthkmnnokbocegaaGreatDoorKN13
import Derived.Test.YthkmnnokbocegaaGreatDoorKN14
import Derived.Test.YthkmnnokbocegaaGreatDoorKN15
import Derived.Test.YthkmnnokbocegaaGreatDoorKN16
import Derived.Test.YthkmnnokbocegaaGreatDoorKN17
import Derived.Test.YthkmnnokbocegaaGreatDoorKN18
import Derived.Test.YthkmnnokbocegaaGreatDoorKN19
import Derived.Test.YthkmnnokbocegaaGreatDoorKN20
import Derived.Test.YthkmnnokbocegaaGreatDoorKN21
import Derived.Test.YthkmnnokbocegaaGreatDoorKN22
import Derived.Test.YthkmnnokbocegaaGreatDoorKN23
import Derived.Test.YthkmnnokbocegaaGreatDoorKN24
import Derived.Test.YthkmnnokbocegaaGreatDoorKN25
import Derived.Test.YthkmnnokbocegaaGreatDoorKN26
import Derived.Test.YthkmnnokbocegaaGreatDoorKN27
import Derived.Test.YthkmnnokbocegaaGreatDoorKN29
import Derived.Test.YthkmnnokbocegaaGreatDoorKN30
import Derived.Test.YthkmnnokbocegaaGreatDoorKN33
import Derived.Test.YthkmnnokbocegaaGreatDoorKN34
import Derived.Test.YthkmnnokbocegaaGreatDoorKN35
import Derived.Test.YthkmnnokbocegaaGreatDoorKN36
namespace Go.Proofs.YthkmnnokbocegaaGreatDoor
open Go.RowKit Go.Deep
set_option linter.unusedVariables false
set_option linter.unusedSimpArgs false

/-- Only memory is added. -/
def Adds (v : Value) (w : World) (e : Ending) (w' : World) : Prop := e = .returned v ∧ Below w.heap.size w w'
theorem trow_nil (w : World) : Calls Tryz.prog 49 #[.pointer none] w fun e w' => e = .returned (.pointer none) ∧ w = w' := by
  go_enter Tryz.func49, Tryz.ntmps49
  go_wp2_with fail
  go_ret
  exact ⟨rfl, rfl⟩
theorem tlaid_nil (m : MsgM) (vk : Value) (w : World) : Calls Tryz.prog 45 #[.pointer none, m.val vk] w (Adds (.tuple #[.string ⟨#[]⟩, .string ⟨#[]⟩, .int .i64 1]) w) := by
  unfold MsgM.val MsgM.cells
  go_enter Tryz.func45, Tryz.ntmps45
  go_wp2_with fail
  go_ret3
  exact ⟨rfl, (Below.refl _ _).alloc (Nat.le_refl _) _⟩
theorem tfrom_nil (a : Int) (w : World) : Calls Tryz.prog 62 #[.pointer none, .int .i64 a] w fun e w' => e = .returned (.slice none 0 0) ∧ w = w' := by
  go_enter Tryz.func62, Tryz.ntmps62
  go_wp2_with fail
  go_ret
  exact ⟨rfl, rfl⟩
theorem tsize_nil (a : Int) (w : World) : Calls Tryz.prog 24 #[.pointer none, .int .i64 a] w fun e w' => e = .returned (.int .i64 0) ∧ w = w' := by
  go_enter Tryz.func24, Tryz.ntmps24
  go_wp2_with fail
  go_ret
  exact ⟨rfl, rfl⟩
theorem tappend_nil (m : MsgM) (vk : Value) (w : World) : Calls Tryz.prog 15 #[.pointer none, m.val vk] w (Adds (.tuple #[.int .i64 0, .int .i64 1]) w) := by
  have HL := Lib.hid (fun W => tlaid_nil m vk W)
  unfold MsgM.val MsgM.cells at HL ⊢
  go_enter Tryz.func15, Tryz.ntmps15
  go_wp2_with fail
  refine (HL.out _).mono ?_
  rintro e w1 ⟨rfl, hb⟩
  have HB := Lib.hid (((Below.refl w.heap.size w).alloc (Nat.le_refl _) _).trans (hb.mono (by simp)))
  clear hb
  go_wp2_with fail
  go_ret2
  exact ⟨rfl, HB.out⟩
theorem tcost_nil (m : MsgM) (vk : Value) (w : World) : Calls Tryz.prog 13 #[.pointer none, m.val vk] w (Adds (.int .i64 0) w) := by
  have HL := Lib.hid (fun W => tlaid_nil m vk W)
  unfold MsgM.val MsgM.cells at HL ⊢
  go_enter Tryz.func13, Tryz.ntmps13
  go_wp2_with fail
  refine (HL.out _).mono ?_
  rintro e w1 ⟨rfl, hb⟩
  have HB := Lib.hid (((Below.refl w.heap.size w).alloc (Nat.le_refl _) _).trans (hb.mono (by simp)))
  clear hb
  go_wp2_with fail
  go_ret
  exact ⟨rfl, HB.out⟩
theorem tnext_nil (a : Int) (w : World) : Calls Tryz.prog 29 #[.pointer none, .int .i64 a] w fun e w' => e = .returned (.tuple #[.int .i64 0, .bool false]) ∧ w = w' := by
  have HF := Lib.hid (tfrom_nil a w)
  go_enter Tryz.func29, Tryz.ntmps29
  go_wp2_with fail
  refine HF.out.mono ?_
  rintro e w1 ⟨rfl, rfl⟩
  go_wp2_with fail
  go_ret2
  exact ⟨rfl, rfl⟩
theorem tlast_nil (w : World) : Calls Tryz.prog 38 #[.pointer none] w fun e w' => e = .returned (.int .i64 0) ∧ w = w' := by
  have HF := Lib.hid (tfrom_nil 0 w)
  go_enter Tryz.func38, Tryz.ntmps38
  go_wp2_with fail
  refine HF.out.mono ?_
  rintro e w1 ⟨rfl, rfl⟩
  go_wp2_with fail
  go_ret
  exact ⟨rfl, rfl⟩
end Go.Proofs.YthkmnnokbocegaaGreatDoor

namespace Go.Proofs.YthkmnnokbocegaaGreatDoor
open Go.RowKit Go.Deep
set_option linter.unusedVariables false
set_option linter.unusedSimpArgs false

/-- What Read gives back: a record and an Errno; only memory is added. -/
def ReadTo (m : MsgM) (x : Int) (w : World) (e : Ending) (w' : World) : Prop := ∃ vk, e = .returned (.tuple #[m.val vk, .int .i64 x]) ∧ Strs w' w.heap.size vk m.keys ∧ CapOk vk ∧ Below w.heap.size w w'
set_option maxHeartbeats 4000000 in
set_option maxRecDepth 100000 in
theorem tread_nil (id : Int) (w : World) : Calls Tryz.prog 22 #[.pointer none, .int .i64 id] w (ReadTo zeroM 1 w) := by
  obtain ⟨W0, hW0⟩ : ∃ W, W = w.alloc (.cells #[.int .i64 0, .int .i64 0, .int .i64 0, .int .i64 0, .int .i64 0, .int .i64 0, .string ⟨#[]⟩, .string ⟨#[]⟩, .string ⟨#[]⟩, .slice none 0 0] 38) := ⟨_, rfl⟩
  have hb0 : Box W0 w.heap.size zc := hW0 ▸ box_zero w
  have hl0 : Below w.heap.size w W0 := hW0 ▸ (Below.refl _ _).alloc (Nat.le_refl _) _
  have HZ := Lib.hid hb0
  have HBL := Lib.hid hl0
  have HW0 := Lib.hid hW0
  clear hb0 hl0 hW0
  go_enter Tryz.func22, Tryz.ntmps22
  go_upto_region 2 with fail
  rw [← HW0.out]
  have hzm := HZ.out.cell
  have hzf := HZ.out.free
  simp only [zc] at hzm
  go_wp2_with fail
  have hbx := box_set10 HZ.out (.int .i64 0) (.int .i64 0) (.int .i64 0) (.int .i64 0) (.int .i64 0) (.int .i64 0) (.string ⟨#[]⟩) (.string ⟨#[]⟩) (.string ⟨#[]⟩) (.slice none 0 0)
  have hbl := below_set10 HBL.out (Nat.le_refl _) (.int .i64 0) (.int .i64 0) (.int .i64 0) (.int .i64 0) (.int .i64 0) (.int .i64 0) (.string ⟨#[]⟩) (.string ⟨#[]⟩) (.string ⟨#[]⟩) (.slice none 0 0)
  unfold set10 at hbx hbl
  have hpm := Box.cell hbx
  exact bodyPost_ret (v := .tuple #[zeroM.val (.slice none 0 0), .int .i64 1]) (by simp [results, Tryz.results22, go_sem, hpm, zc, zeroM, MsgM.val, MsgM.cells]) rfl ⟨.slice none 0 0, rfl, ⟨none, 0, rfl, .inl rfl⟩, ⟨none, 0, 0, rfl, Nat.le_refl _⟩, hbl⟩
end Go.Proofs.YthkmnnokbocegaaGreatDoor

