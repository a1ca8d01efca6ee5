/-
  Part 41: what the statement needs of these texts: TNoneA, TNil3, TNoneB.
-/
import Derived.BigQuiet
import Derived.BigRegion
import Derived.ChangeSame
import Derived.Deep.DeepCutAuto
import Derived.Deep.DeepMust
import Derived.Deep.Grids
import Derived.Deep.OwnRows
import Derived.Deep.QuietTactic
import Derived.Deep.RegionHeld3
import Derived.Deep.RegionLaw
import Derived.Deep.RegionWith
import Derived.Defers
import Derived.IntWalk
import Derived.Laws.BitsAllLaws
import Derived.Laws.CopyOwn
import Derived.Laws.OwnMore
import Derived.Laws.PanicsMore
import Derived.Laws.RangeAny
import Derived.Laws.Rows
import Derived.Laws.StructEq
import Derived.Lib.AppendStr
import Derived.Lib.AppendZerosOnto
import Derived.Lib.Atoi
import Derived.Lib.AtoiErrMem
import Derived.Lib.BufferRead
import Derived.Lib.BufferWrite
import Derived.Lib.Hide
import Derived.Lib.ItoaNum
import Derived.Lib.LaidTab
import Derived.Lib.OthersKept
import Derived.Lib.Repeat
import Derived.Lib.SliceRun
import Derived.Lib.SmallJoins
import Derived.Maps.AppendAt
import Derived.Maps.OwnSet
import Derived.Maps.RangeWalk
import Derived.Orders
import Derived.ProofKit
import Derived.Recover
import Derived.RowKit
import Derived.Shelf.GgClosure.StringsIndexFunc
import Derived.Shelf.GgClosure.StringsIndexFuncTop
import Derived.Shelf.LaysM
import Derived.Shelf.SlSortCmp.NoneTotal
import Derived.Shelf.Slices.Clone
import Derived.Shelf.Slices.Empties
import Derived.Shelf.Slices.In.SortNone
import Derived.Shelf.Slices.SearchI
import Derived.Shelf.Slices.Turned
import Derived.Shelf.Small.Wraps
import Derived.Shelf.Sort.Plain
import Derived.Shelf.Strconv.Atoi
import Derived.Shelf.Strconv.Itoa3
import Derived.Shelf.Strings.Builder1
import Derived.Shelf.Strings.Prefix
import Derived.Shelf.Strings.Repeat
import Derived.SliceStrings
import Derived.Sort.KeysCollected
import Derived.Sort.OwnSorted
import Derived.StillTailTactics
import Derived.StringKeys
import Derived.Test.YthkmnnokbocegaaGreatDoorProg
import Derived.Test.YthkmnnokbocegaaGreatDoorRows
import Derived.WalkKit
import Derived.WalkLawsBesides
import Derived.WalkSmall
import Derived.WalkSpells
import Derived.Test.YthkmnnokbocegaaGreatDoorKN1
import Derived.Test.YthkmnnokbocegaaGreatDoorKN2
import Derived.Test.YthkmnnokbocegaaGreatDoorKN3
import Derived.Test.YthkmnnokbocegaaGreatDoorKN4
import Derived.Test.YthkmnnokbocegaaGreatDoorKN5
import Derived.Test.YthkmnnokbocegaaGreatDoorKN6
import Derived.Test.YthkmnnokbocegaaGreatDoorKN7
import Derived.Test.YthkmnnokbocegaaGreatDoorKN8
import Derived.Test.YthkmnnokbocegaaGreatDoorKN9
import Derived.Test.YthkmnnokbocegaaGreatDoorKN10
import Derived.Test.YthkmnnokbocegaaGreatDoorKN11
import Derived.Test.YthkmnnokbocegaaGreatDoorKN12
import Derived.Test.YthkmnnokbocegaaGreatDoorKN13
import Derived.Test.YthkmnnokbocegaaGreatDoorKN14
import Derived.Test.YthkmnnokbocegaaGreatDoorKN15
import Derived.Test.YthkmnnokbocegaaGreatDoorKN16
import Derived.Test.YthkmnnokbocegaaGreatDoorKN17
import Derived.Test.YthkmnnokbocegaaGreatDoorKN18
import Derived.Test.YthkmnnokbocegaaGreatDoorKN19
import Derived.Test.YthkmnnokbocegaaGreatDoorKN20
import Derived.Test.YthkmnnokbocegaaGreatDoorKN21
import Derived.Test.YthkmnnokbocegaaGreatDoorKN22
import Derived.Test.YthkmnnokbocegaaGreatDoorKN23
import Derived.Test.YthkmnnokbocegaaGreatDoorKN24
import Derived.Test.YthkmnnokbocegaaGreatDoorKN25
import Derived.Test.YthkmnnokbocegaaGreatDoorKN26
import Derived.Test.YthkmnnokbocegaaGreatDoorKN27
import Derived.Test.YthkmnnokbocegaaGreatDoorKN29
import Derived.Test.YthkmnnokbocegaaGreatDoorKN30
import Derived.Test.YthkmnnokbocegaaGreatDoorKN31
import Derived.Test.YthkmnnokbocegaaGreatDoorKN32
import Derived.Test.YthkmnnokbocegaaGreatDoorKN33
import Derived.Test.YthkmnnokbocegaaGreatDoorKN34
import Derived.Test.YthkmnnokbocegaaGreatDoorKN35
import Derived.Test.YthkmnnokbocegaaGreatDoorKN36
import Derived.Test.YthkmnnokbocegaaGreatDoorKN37
import Derived.Test.YthkmnnokbocegaaGreatDoorKN38
import Derived.Test.YthkmnnokbocegaaGreatDoorKN39
import Derived.Test.YthkmnnokbocegaaGreatDoorKN40
namespace Go.Proofs.YthkmnnokbocegaaGreatDoor
open Go.RowKit Go.Deep
set_option linter.unusedVariables false
set_option linter.unusedSimpArgs false

def inM (a : Int) : MsgM := ⟨4, 0, 0, 0, a, 0, ⟨#[]⟩, ⟨#[]⟩, ⟨#[]⟩, []⟩
def outM (s : ByteArray) : MsgM := ⟨1, 0, 0, 0, 0, 0, ⟨#[97]⟩, ⟨#[]⟩, s, []⟩
theorem inM_right {a : Int} (h0 : 0 ≤ a) (h1 : a ≤ 255) : rightB (inM a) = true := by
  have e1 : allIn 0 1099511627776 (inM a).nums = true := by
    refine allIn_yes fun j hj => ?_
    have hl : (inM a).nums = [4, 0, 0, 0, a, 0] ∨ True := .inr trivial
    simp only [MsgM.nums, inM] at hj ⊢
    match j with
    | 0 => simp
    | 1 => simp
    | 2 => simp
    | 3 => simp
    | 4 => simp; omega
    | 5 => simp
    | j + 6 => simp at hj; try omega
  have e2 : restB (inM a) = true := by
    simp [restB, inM, bareB, allIn]
  unfold rightB
  rw [e1, e2]
  rfl
theorem outM_right {s : ByteArray} (h : s.size ≤ 200) : rightB (outM s) = true := by
  have e : rightB (outM s) = (allIn 0 1099511627776 [1, 0, 0, 0, 0, 0] && (allIn 0 2 [0] && (allIn 0 4 [0] && (topicB ⟨#[97]⟩ && (tagB ⟨#[]⟩ && (keysB [] && decide (s.size ≤ 200))))) && allIn 0 0 [0, 0])) := rfl
  rw [e, decide_eq_true h]
  decide +kernel
theorem putO_some {m : MsgM} (h : rightB m = true) (hk : m.kind ≠ 0) : putO m = some (recB m) := by
  unfold putO; rw [if_pos h, if_pos hk]
theorem inM_len (a : Int) : (recB (inM a)).length ≤ 200 := by
  have h : (packB (inM a)).length = 3 + 18 + 6 + 1 := by
    unfold packB inM
    simp [Oc.numsB, Oc.numB_length, Oc.txtB, Oc.listB]
  have h3 : (recB (inM a)).length = 3 + (Cr.sealB ⟨(packB (inM a)).toArray⟩).length := frameB_length _ _
  rw [Cr.sealB_length, sizeL] at h3
  omega
end Go.Proofs.YthkmnnokbocegaaGreatDoor

namespace Go.Proofs.YthkmnnokbocegaaGreatDoor
open Go.RowKit Go.Deep
set_option linter.unusedVariables false
set_option linter.unusedSimpArgs false

theorem tbegin_nil (w : World) : Calls Tryz.prog 37 #[.pointer none] w fun e w' => e = .returned (.int .i64 0) ∧ w = w' := by
  go_enter Tryz.func37, Tryz.ntmps37
  go_wp2_with fail
  refine (trow_nil _).mono ?_
  rintro e w1 ⟨rfl, rfl⟩
  go_wp2_with fail
  refine (begin_nil _).mono ?_
  rintro e w1 ⟨rfl, rfl⟩
  go_wp2_with fail
  go_ret
  exact ⟨rfl, rfl⟩
theorem tend_nil (w : World) : Calls Tryz.prog 19 #[.pointer none] w fun e w' => e = .returned (.int .i64 0) ∧ w = w' := by
  go_enter Tryz.func19, Tryz.ntmps19
  go_wp2_with fail
  refine (trow_nil _).mono ?_
  rintro e w1 ⟨rfl, rfl⟩
  go_wp2_with fail
  refine (end_nil _).mono ?_
  rintro e w1 ⟨rfl, rfl⟩
  go_wp2_with fail
  go_ret
  exact ⟨rfl, rfl⟩
theorem tsynced_nil (w : World) : Calls Tryz.prog 18 #[.pointer none] w fun e w' => e = .returned (.int .i64 0) ∧ w = w' := by
  go_enter Tryz.func18, Tryz.ntmps18
  go_wp2_with fail
  refine (trow_nil _).mono ?_
  rintro e w1 ⟨rfl, rfl⟩
  go_wp2_with fail
  refine (synced_nil _).mono ?_
  rintro e w1 ⟨rfl, rfl⟩
  go_wp2_with fail
  go_ret
  exact ⟨rfl, rfl⟩
theorem tsync_nil (w : World) : Calls Tryz.prog 17 #[.pointer none] w fun e w' => e = .returned (.int .i64 1) ∧ w = w' := by
  go_enter Tryz.func17, Tryz.ntmps17
  go_wp2_with fail
  refine (trow_nil _).mono ?_
  rintro e w1 ⟨rfl, rfl⟩
  go_wp2_with fail
  refine (sync_nil _).mono ?_
  rintro e w1 ⟨rfl, rfl⟩
  go_wp2_with fail
  go_ret
  exact ⟨rfl, rfl⟩
theorem tdrop_nil (w : World) : Calls Tryz.prog 20 #[.pointer none] w fun e w' => e = .returned (.tuple #[.int .i64 0, .int .i64 1]) ∧ w = w' := by
  go_enter Tryz.func20, Tryz.ntmps20
  go_wp2_with fail
  refine (trow_nil _).mono ?_
  rintro e w1 ⟨rfl, rfl⟩
  go_wp2_with fail
  refine (drop_nil _).mono ?_
  rintro e w1 ⟨rfl, rfl⟩
  go_wp2_with fail
  go_ret2
  exact ⟨rfl, rfl⟩
theorem clone_nil' (w : World) : Calls Tryz.prog 63 #[.slice none 0 0] w fun e w' => e = .returned (.slice none 0 0) ∧ w = w' := by
  have hnil := fun W => Lib.run_eql_slice_nil (P := Tryz.prog) W 32 3 none 0 0 0 0 Tryz.underlying32
  go_enter Tryz.func63, Tryz.ntmps63
  go_wp2_with fail
  go_ret
  exact ⟨rfl, rfl⟩
theorem tids_nil' (a : Int) (w : World) : Calls Tryz.prog 31 #[.pointer none, .int .i64 a] w fun e w' => e = .returned (.slice none 0 0) ∧ w = w' := by
  go_enter Tryz.func31, Tryz.ntmps31
  go_wp2_with fail
  refine (tfrom_nil a _).mono ?_
  rintro e w1 ⟨rfl, rfl⟩
  go_wp2_with fail
  refine (clone_nil' _).mono ?_
  rintro e w1 ⟨rfl, rfl⟩
  go_wp2_with fail
  go_ret
  exact ⟨rfl, rfl⟩
theorem same_below {P : Program} {f : FuncId} {args : Array Value} {w : World} {v : Value} (h : Calls P f args w fun e w' => e = .returned v ∧ w = w') : Calls P f args w fun e w' => e = .returned v ∧ Below w.heap.size w w' :=
  h.mono fun e w' ⟨a, b⟩ => ⟨a, b ▸ Below.refl _ _⟩
end Go.Proofs.YthkmnnokbocegaaGreatDoor

namespace Go.Proofs.YthkmnnokbocegaaGreatDoor
open Go.RowKit Go.Deep
set_option linter.unusedVariables false
set_option linter.unusedSimpArgs false
attribute [local go_sem] fr_opt

set_option maxHeartbeats 8000000 in
set_option maxRecDepth 100000 in
theorem walkF_TapeNone (a : MsgM) (va : Value) (at_ : Int) (w : World) (ht : Tab10 w) (ha : Sized w (a, va)) (ca : CapOk va) (h8 : (Lit.int .u8 at_).wf = true) :
    Calls Tryz.prog 5 #[a.val va, .int .u8 at_] w fun e w' => e = .returned (.bool true) ∧ Below w.heap.size w w' := by
  have h8' : 0 ≤ at_ ∧ at_ ≤ 255 := by
    have h2 : IntKind.u8.min ≤ at_ ∧ at_ ≤ IntKind.u8.max := by simpa [Lit.wf] using h8
    have e1 : IntKind.u8.min = 0 := by decide
    have e2 : IntKind.u8.max = 255 := by decide
    omega
  obtain ⟨a0, a255⟩ := h8'
  obtain ⟨W0, hW0⟩ : ∃ W, W = w.alloc (.cells #[.int .i64 a.kind, .int .i64 a.queue, .int .i64 a.due, .int .i64 a.retry, .int .i64 a.ref, .int .i64 a.born, .string a.topic, .string a.tag, .string a.body, va] 38) := ⟨_, rfl⟩
  have hl0 : Below w.heap.size w W0 := by
    rw [hW0]
    exact (Below.refl w.heap.size w).alloc (Nat.le_refl _) _
  have HBA : Hid (Box W0 w.heap.size #[.int .i64 a.kind, .int .i64 a.queue, .int .i64 a.due, .int .i64 a.retry, .int .i64 a.ref, .int .i64 a.born, .string a.topic, .string a.tag, .string a.body, va]) := Lib.hid (by rw [hW0]; exact Box.new w _)
  have HLX := Lib.hid hl0
  have HW0 := Lib.hid hW0
  have HA := Lib.hid ha
  have HCA := Lib.hid ca
  have HTB := Lib.hid ht
  have HSA : Hid (∀ W, Below W0.heap.size W0 W → Sized W (a, va)) := Lib.hid fun W h => HA.out.below (HLX.out.trans (h.mono HLX.out.size))
  have k0 := HBA.out.cell
  clear hl0 hW0 ha ca ht h8
  unfold MsgM.val
  unfold MsgM.cells at *
  go_enter Tryz.func5, Tryz.ntmps5
  go_wp2_with fail
  rw [← HW0.out]
  refine (tawake_any W0 (tab_chg HTB.out (below_chg HLX.out))).mono ?_
  rintro e w1 ⟨rfl, hc1⟩
  have hb1 := chg_below hc1
  clear k0 hc1
  have k0 := (HBA.out.below hb1 HBA.out.lt).cell
  have HB1 := Lib.hid hb1
  clear hb1
  go_wp2_with fail
  obtain ⟨W1, hW1⟩ : ∃ W, W = w1.alloc (.cells #[.int .i64 a.kind, .int .i64 a.queue, .int .i64 a.due, .int .i64 a.retry, .int .i64 a.ref, .int .i64 a.born, .string a.topic, .string a.tag, .string a.body, va] 38) := ⟨_, rfl⟩
  rw [← hW1]
  have hbl1 : Below W0.heap.size W0 W1 := by rw [hW1]; exact HB1.out.alloc HB1.out.size _
  have HG := Lib.hid (great_any [(a, va)] w1.heap.size 1 W1 (by rw [hW1, World.size_alloc]; omega) rfl (by decide) (by
    intro p hp
    simp only [List.mem_cons, List.not_mem_nil, or_false] at hp
    rcases hp with rfl
    exact HSA.out _ hbl1) (by rw [hW1]; exact one_msg' w1 a va))
  clear k0
  have k0 := (HBA.out.below hbl1 HBA.out.lt).cell
  have HBL1 := Lib.hid hbl1
  clear hbl1 hW1
  refine HG.out.mono ?_
  rintro e w2 ⟨z, rfl, hf, hb2⟩
  have HBL2 := Lib.hid (HBL1.out.trans (hb2.mono HBL1.out.size))
  clear k0 hb2
  have k0 := (HBA.out.below HBL2.out HBA.out.lt).cell
  clear HG
  cases z
  case true =>
    go_wp2_with fail
    go_ret
    exact ⟨rfl, HLX.out.trans (HBL2.out.mono HLX.out.size)⟩
  have HFA := Lib.hid (hf rfl (a, va) (by simp))
  dsimp only at HFA
  clear hf
  have HAP := Lib.hid (tappend_nil a va w2)
  unfold MsgM.val MsgM.cells at HAP
  go_wp2_with fail
  refine HAP.out.mono ?_
  rintro e w3 ⟨rfl, hb3⟩
  have HBL3 := Lib.hid (HBL2.out.trans (hb3.mono HBL2.out.size))
  clear k0 hb3 HAP
  have k0 := (HBA.out.below HBL3.out HBA.out.lt).cell
  go_wp2_with fail
  refine (tread_nil 0 w3).mono ?_
  rintro e w4 ⟨vk, rfl, hsv, _, hb4⟩
  obtain ⟨pv, cv, hvk⟩ := hsv.form
  subst hvk
  clear hsv
  have HBL4 := Lib.hid (HBL3.out.trans (hb4.mono HBL3.out.size))
  clear k0 hb4
  have k0 := (HBA.out.below HBL4.out HBA.out.lt).cell
  unfold MsgM.val MsgM.cells
  simp only [zeroM]
  go_wp2_with fail
  have HBLx := Lib.hid (HBL4.out.alloc HBL4.out.size (.cells #[.int .i64 0, .int .i64 0, .int .i64 0, .int .i64 0, .int .i64 0, .int .i64 0, .string ⟨#[]⟩, .string ⟨#[]⟩, .string ⟨#[]⟩, .slice pv 0 cv] 38))
  obtain ⟨W4, hW4⟩ : ∃ W, W = w4.alloc (.cells #[.int .i64 0, .int .i64 0, .int .i64 0, .int .i64 0, .int .i64 0, .int .i64 0, .string ⟨#[]⟩, .string ⟨#[]⟩, .string ⟨#[]⟩, .slice pv 0 cv] 38) := ⟨_, rfl⟩
  rw [← hW4] at HBLx
  rw [← hW4]
  clear hW4
  refine (tnext_nil 0 _).mono ?_
  rintro e w5 ⟨rfl, rfl⟩
  clear k0
  go_wp2_with fail
  refine (tdrop_nil _).mono ?_
  rintro e w5 ⟨rfl, rfl⟩
  go_wp2_with fail
  refine (topen_nil _).mono ?_
  rintro e W5 ⟨rfl, hb5⟩
  have HBL5 := Lib.hid (HBLx.out.trans (hb5.mono HBLx.out.size))
  have HBA5 := Lib.hid (HBA.out.below HBL5.out HBA.out.lt)
  have HCN : Hid (∀ W, Calls Tryz.prog 13 #[.pointer none, .agg #[.int .i64 a.kind, .int .i64 a.queue, .int .i64 a.due, .int .i64 a.retry, .int .i64 a.ref, .int .i64 a.born, .string a.topic, .string a.tag, .string a.body, va]] W (fun e w' => e = .returned (.int .i64 0) ∧ Below W.heap.size W w')) := Lib.hid (fun W => tcost_nil a va W)
  clear hb5
  go_upto_region 11 with fail
  refine region_inv' (n := 143) rfl rfl (by kernel_rfl) (by kernel_rfl) (fun i v _ => match i with | 0 => v = .int .i64 1 | 1 => v = .bool false | 2 => v = .bool false | 3 => v = gv (true) (.int .i64 1) | 4 => v = gv (true) (.bool false) | 5 => v = .bool false | 6 => v = .bool false | 7 => v = gv (true) (.bool false) | 8 => v = .bool false | 9 => v = .bool false | 10 => v = gv (true) (.int .i64 1) | 11 => v = gv (true) (.bool false) | 12 => v = .bool false | 13 => v = .bool false | 14 => v = gv (true) (.int .i64 1) | 15 => v = gv (true) (.bool false) | 16 => v = .bool false | 17 => v = .bool false | 18 => v = gv (true) (.pointer none) | 19 => v = gv (true) (.int .i64 1) | 20 => v = gv (true) (.bool false) | 21 => v = .bool false | 22 => v = .bool false | 23 => v = gv (true) (.pointer none) | 24 => v = gv (true) (.int .i64 0) | 25 => v = gv (true) (.pointer none) | 26 => v = gv (true) (.int .i64 0) | 27 => v = gv (true) (.int .i64 0) | 28 => v = gv (true) (.pointer none) | 29 => v = gv (true) (.int .i64 0) | 30 => v = gv (true) (.int .i64 0) | 31 => v = gv (true) (.pointer none) | 32 => v = gv (true) (.int .i64 0) | 33 => v = gv (true) (.int .i64 0) | 34 => v = gv (true) (.pointer none) | 35 => v = gv (true) (.int .i64 0) | 36 => v = gv (true) (.int .i64 0) | 37 => v = gv (true) (.pointer none) | 38 => v = gv (true) (.agg #[.int .i64 a.kind, .int .i64 a.queue, .int .i64 a.due, .int .i64 a.retry, .int .i64 a.ref, .int .i64 a.born, .string a.topic, .string a.tag, .string a.body, va]) | 39 => v = gv (true) (.int .i64 0) | 40 => v = gv (true) (.int .i64 0) | 41 => v = gv (true) (.pointer none) | 42 => v = gv (true) (.slice none 0 0) | 43 => v = gv (true) (.int .i64 0) | 44 => v = gv (true) (.int .i64 0) | 45 => v = gv (true) (.bool false) | 46 => v = .bool false | _ => True)
    (fun w' => Below W5.heap.size W5 w') (fun w' w2 => Below W5.heap.size w' w2) (fun w' => Below.refl _ _) (fun _ _ _ _ _ h => h) (Below.refl _ _).drew ?_ ?_
  · simp only [AllAt]
    refine ⟨?_, ?_, ?_, ?_, ?_, ?_, ?_, ?_, ?_, ?_, ?_, ?_, ?_, ?_, ?_, ?_, ?_, ?_, ?_, ?_, ?_, ?_, ?_, ?_, ?_, ?_, ?_, ?_, ?_, ?_, ?_, ?_, ?_, ?_, ?_, ?_, ?_, ?_, ?_, ?_, ?_, ?_, ?_, ?_, ?_, ?_, ?_, trivial⟩
    · refine StepAt.plain rfl ?_
      intro f w' hG hfr hp Kx hK
      have g7 : f 7 = .int .i64 1 := hfr 7 (by kernel_rfl)
      clear hfr hp
      go_simp
      exact hK _ _ rfl hG (Below.refl _ _)
    · refine StepAt.plain rfl ?_
      intro f w' hG hfr hp Kx hK
      have g54 : f 54 = .int .i64 1 := hp 0 _ 54 rfl rfl (by kernel_rfl)
      clear hfr hp
      go_simp
      exact hK _ _ rfl hG (Below.refl _ _)
    · refine StepAt.plain rfl ?_
      intro f w' hG hfr hp Kx hK
      have g55 : f 55 = .bool false := hp 1 _ 55 rfl rfl (by kernel_rfl)
      clear hfr hp
      go_simp
      exact hK _ _ rfl hG (Below.refl _ _)
    · refine StepAt.guarded 2 56 false _ rfl rfl rfl (by decide) (by kernel_rfl) (true) (by intro w v h; (have h : v = .bool false := h); rw [h]; (simp [gv, undef])) (by intro h w; show undef = gv (true) _; rw [h]; rfl) ?_
      intro hc f w' hG hfr hp Kx hK
      have g9 : f 9 = .int .i64 1 := hfr 9 (by kernel_rfl)
      clear hfr hp
      clear hc
      go_simp
      exact hK _ _ rfl hG (Below.refl _ _)
    · refine StepAt.guarded 2 56 false _ rfl rfl rfl (by decide) (by kernel_rfl) (true) (by intro w v h; (have h : v = .bool false := h); rw [h]; (simp [gv, undef])) (by intro h w; show undef = gv (true) _; rw [h]; rfl) ?_
      intro hc f w' hG hfr hp Kx hK
      have g57 : f 57 = gv (true) (.int .i64 1) := hp 3 _ 57 rfl rfl (by kernel_rfl)
      clear hfr hp
      clear hc
      simp only [gv_true, gv_false, Bool.not_false, Bool.not_true, Bool.and_true, Bool.true_and] at g57
      go_simp
      exact hK _ _ rfl hG (Below.refl _ _)
    · refine StepAt.plain rfl ?_
      intro f w' hG hfr hp Kx hK
      have g56 : f 56 = .bool false := hp 2 _ 56 rfl rfl (by kernel_rfl)
      have g58 : f 58 = gv (true) (.bool false) := hp 4 _ 58 rfl rfl (by kernel_rfl)
      clear hfr hp
      go_simp
      exact hK _ _ rfl hG (Below.refl _ _)
    · refine StepAt.plain rfl ?_
      intro f w' hG hfr hp Kx hK
      have g59 : f 59 = .bool false := hp 5 _ 59 rfl rfl (by kernel_rfl)
      clear hfr hp
      go_simp
      exact hK _ _ rfl hG (Below.refl _ _)
    · refine StepAt.guarded 6 60 false _ rfl rfl rfl (by decide) (by kernel_rfl) (true) (by intro w v h; (have h : v = .bool false := h); rw [h]; (simp [gv, undef])) (by intro h w; show undef = gv (true) _; rw [h]; rfl) ?_
      intro hc f w' hG hfr hp Kx hK
      have g11 : f 11 = .bool false := hfr 11 (by kernel_rfl)
      clear hfr hp
      clear hc
      go_simp
      exact hK _ _ rfl hG (Below.refl _ _)
    · refine StepAt.plain rfl ?_
      intro f w' hG hfr hp Kx hK
      have g60 : f 60 = .bool false := hp 6 _ 60 rfl rfl (by kernel_rfl)
      have g61 : f 61 = gv (true) (.bool false) := hp 7 _ 61 rfl rfl (by kernel_rfl)
      clear hfr hp
      go_simp
      exact hK _ _ rfl hG (Below.refl _ _)
    · refine StepAt.plain rfl ?_
      intro f w' hG hfr hp Kx hK
      have g62 : f 62 = .bool false := hp 8 _ 62 rfl rfl (by kernel_rfl)
      clear hfr hp
      go_simp
      exact hK _ _ rfl hG (Below.refl _ _)
    · refine StepAt.guarded 9 63 false _ rfl rfl rfl (by decide) (by kernel_rfl) (true) (by intro w v h; (have h : v = .bool false := h); rw [h]; (simp [gv, undef])) (by intro h w; show undef = gv (true) _; rw [h]; rfl) ?_
      intro hc f w' hG hfr hp Kx hK
      have g13 : f 13 = .int .i64 1 := hfr 13 (by kernel_rfl)
      clear hfr hp
      clear hc
      go_simp
      exact hK _ _ rfl hG (Below.refl _ _)
    · refine StepAt.guarded 9 63 false _ rfl rfl rfl (by decide) (by kernel_rfl) (true) (by intro w v h; (have h : v = .bool false := h); rw [h]; (simp [gv, undef])) (by intro h w; show undef = gv (true) _; rw [h]; rfl) ?_
      intro hc f w' hG hfr hp Kx hK
      have g64 : f 64 = gv (true) (.int .i64 1) := hp 10 _ 64 rfl rfl (by kernel_rfl)
      clear hfr hp
      clear hc
      simp only [gv_true, gv_false, Bool.not_false, Bool.not_true, Bool.and_true, Bool.true_and] at g64
      go_simp
      exact hK _ _ rfl hG (Below.refl _ _)
    · refine StepAt.plain rfl ?_
      intro f w' hG hfr hp Kx hK
      have g63 : f 63 = .bool false := hp 9 _ 63 rfl rfl (by kernel_rfl)
      have g65 : f 65 = gv (true) (.bool false) := hp 11 _ 65 rfl rfl (by kernel_rfl)
      clear hfr hp
      go_simp
      exact hK _ _ rfl hG (Below.refl _ _)
    · refine StepAt.plain rfl ?_
      intro f w' hG hfr hp Kx hK
      have g66 : f 66 = .bool false := hp 12 _ 66 rfl rfl (by kernel_rfl)
      clear hfr hp
      go_simp
      exact hK _ _ rfl hG (Below.refl _ _)
    · refine StepAt.guarded 13 67 false _ rfl rfl rfl (by decide) (by kernel_rfl) (true) (by intro w v h; (have h : v = .bool false := h); rw [h]; (simp [gv, undef])) (by intro h w; show undef = gv (true) _; rw [h]; rfl) ?_
      intro hc f w' hG hfr hp Kx hK
      have g15 : f 15 = .int .i64 1 := hfr 15 (by kernel_rfl)
      clear hfr hp
      clear hc
      go_simp
      exact hK _ _ rfl hG (Below.refl _ _)
    · refine StepAt.guarded 13 67 false _ rfl rfl rfl (by decide) (by kernel_rfl) (true) (by intro w v h; (have h : v = .bool false := h); rw [h]; (simp [gv, undef])) (by intro h w; show undef = gv (true) _; rw [h]; rfl) ?_
      intro hc f w' hG hfr hp Kx hK
      have g68 : f 68 = gv (true) (.int .i64 1) := hp 14 _ 68 rfl rfl (by kernel_rfl)
      clear hfr hp
      clear hc
      simp only [gv_true, gv_false, Bool.not_false, Bool.not_true, Bool.and_true, Bool.true_and] at g68
      go_simp
      exact hK _ _ rfl hG (Below.refl _ _)
    · refine StepAt.plain rfl ?_
      intro f w' hG hfr hp Kx hK
      have g67 : f 67 = .bool false := hp 13 _ 67 rfl rfl (by kernel_rfl)
      have g69 : f 69 = gv (true) (.bool false) := hp 15 _ 69 rfl rfl (by kernel_rfl)
      clear hfr hp
      go_simp
      exact hK _ _ rfl hG (Below.refl _ _)
    · refine StepAt.plain rfl ?_
      intro f w' hG hfr hp Kx hK
      have g70 : f 70 = .bool false := hp 16 _ 70 rfl rfl (by kernel_rfl)
      clear hfr hp
      go_simp
      exact hK _ _ rfl hG (Below.refl _ _)
    · refine StepAt.guarded 17 71 false _ rfl rfl rfl (by decide) (by kernel_rfl) (true) (by intro w v h; (have h : v = .bool false := h); rw [h]; (simp [gv, undef])) (by intro h w; show undef = gv (true) _; rw [h]; rfl) ?_
      intro hc f w' hG hfr hp Kx hK
      have g5 : f 5 = .pointer none := hfr 5 (by kernel_rfl)
      clear hfr hp
      clear hc
      go_simp
      exact hK _ _ rfl hG (Below.refl _ _)
    · refine StepAt.guarded 17 71 false _ rfl rfl rfl (by decide) (by kernel_rfl) (true) (by intro w v h; (have h : v = .bool false := h); rw [h]; (simp [gv, undef])) (by intro h w; show undef = gv (true) _; rw [h]; rfl) ?_
      intro hc f w' hG hfr hp Kx hK
      have g72 : f 72 = gv (true) (.pointer none) := hp 18 _ 72 rfl rfl (by kernel_rfl)
      clear hfr hp
      clear hc
      simp only [gv_true, gv_false, Bool.not_false, Bool.not_true, Bool.and_true, Bool.true_and] at g72
      go_simp
      refine (same_below (tsync_nil w')).mono ?_
      rintro e w2 ⟨rfl, hb⟩
      exact hK _ _ rfl (Below.trans hG (Below.mono hb hG.size)) (Below.mono hb hG.size)
    · refine StepAt.guarded 17 71 false _ rfl rfl rfl (by decide) (by kernel_rfl) (true) (by intro w v h; (have h : v = .bool false := h); rw [h]; (simp [gv, undef])) (by intro h w; show undef = gv (true) _; rw [h]; rfl) ?_
      intro hc f w' hG hfr hp Kx hK
      have g73 : f 73 = gv (true) (.int .i64 1) := hp 19 _ 73 rfl rfl (by kernel_rfl)
      clear hfr hp
      clear hc
      simp only [gv_true, gv_false, Bool.not_false, Bool.not_true, Bool.and_true, Bool.true_and] at g73
      go_simp
      exact hK _ _ rfl hG (Below.refl _ _)
    · refine StepAt.plain rfl ?_
      intro f w' hG hfr hp Kx hK
      have g71 : f 71 = .bool false := hp 17 _ 71 rfl rfl (by kernel_rfl)
      have g74 : f 74 = gv (true) (.bool false) := hp 20 _ 74 rfl rfl (by kernel_rfl)
      clear hfr hp
      go_simp
      exact hK _ _ rfl hG (Below.refl _ _)
    · refine StepAt.plain rfl ?_
      intro f w' hG hfr hp Kx hK
      have g75 : f 75 = .bool false := hp 21 _ 75 rfl rfl (by kernel_rfl)
      clear hfr hp
      go_simp
      exact hK _ _ rfl hG (Below.refl _ _)
    · refine StepAt.guarded 22 76 false _ rfl rfl rfl (by decide) (by kernel_rfl) (true) (by intro w v h; (have h : v = .bool false := h); rw [h]; (simp [gv, undef])) (by intro h w; show undef = gv (true) _; rw [h]; rfl) ?_
      intro hc f w' hG hfr hp Kx hK
      have g5 : f 5 = .pointer none := hfr 5 (by kernel_rfl)
      clear hfr hp
      clear hc
      go_simp
      exact hK _ _ rfl hG (Below.refl _ _)
    · refine StepAt.guarded 22 76 false _ rfl rfl rfl (by decide) (by kernel_rfl) (true) (by intro w v h; (have h : v = .bool false := h); rw [h]; (simp [gv, undef])) (by intro h w; show undef = gv (true) _; rw [h]; rfl) ?_
      intro hc f w' hG hfr hp Kx hK
      have g77 : f 77 = gv (true) (.pointer none) := hp 23 _ 77 rfl rfl (by kernel_rfl)
      clear hfr hp
      clear hc
      simp only [gv_true, gv_false, Bool.not_false, Bool.not_true, Bool.and_true, Bool.true_and] at g77
      go_simp
      refine (same_below (tsize_nil 0 w')).mono ?_
      rintro e w2 ⟨rfl, hb⟩
      exact hK _ _ rfl (Below.trans hG (Below.mono hb hG.size)) (Below.mono hb hG.size)
    · refine StepAt.guarded 22 76 false _ rfl rfl rfl (by decide) (by kernel_rfl) (true) (by intro w v h; (have h : v = .bool false := h); rw [h]; (simp [gv, undef])) (by intro h w; show undef = gv (true) _; rw [h]; rfl) ?_
      intro hc f w' hG hfr hp Kx hK
      have g5 : f 5 = .pointer none := hfr 5 (by kernel_rfl)
      clear hfr hp
      clear hc
      go_simp
      exact hK _ _ rfl hG (Below.refl _ _)
    · refine StepAt.guarded 22 76 false _ rfl rfl rfl (by decide) (by kernel_rfl) (true) (by intro w v h; (have h : v = .bool false := h); rw [h]; (simp [gv, undef])) (by intro h w; show undef = gv (true) _; rw [h]; rfl) ?_
      intro hc f w' hG hfr hp Kx hK
      have g79 : f 79 = gv (true) (.pointer none) := hp 25 _ 79 rfl rfl (by kernel_rfl)
      clear hfr hp
      clear hc
      simp only [gv_true, gv_false, Bool.not_false, Bool.not_true, Bool.and_true, Bool.true_and] at g79
      go_simp
      refine (same_below (tbegin_nil w')).mono ?_
      rintro e w2 ⟨rfl, hb⟩
      exact hK _ _ rfl (Below.trans hG (Below.mono hb hG.size)) (Below.mono hb hG.size)
    · refine StepAt.guarded 22 76 false _ rfl rfl rfl (by decide) (by kernel_rfl) (true) (by intro w v h; (have h : v = .bool false := h); rw [h]; (simp [gv, undef])) (by intro h w; show undef = gv (true) _; rw [h]; rfl) ?_
      intro hc f w' hG hfr hp Kx hK
      have g78 : f 78 = gv (true) (.int .i64 0) := hp 24 _ 78 rfl rfl (by kernel_rfl)
      have g80 : f 80 = gv (true) (.int .i64 0) := hp 26 _ 80 rfl rfl (by kernel_rfl)
      clear hfr hp
      clear hc
      simp only [gv_true, gv_false, Bool.not_false, Bool.not_true, Bool.and_true, Bool.true_and] at g78 g80
      go_simp
      exact hK _ _ rfl hG (Below.refl _ _)
    · refine StepAt.guarded 22 76 false _ rfl rfl rfl (by decide) (by kernel_rfl) (true) (by intro w v h; (have h : v = .bool false := h); rw [h]; (simp [gv, undef])) (by intro h w; show undef = gv (true) _; rw [h]; rfl) ?_
      intro hc f w' hG hfr hp Kx hK
      have g5 : f 5 = .pointer none := hfr 5 (by kernel_rfl)
      clear hfr hp
      clear hc
      go_simp
      exact hK _ _ rfl hG (Below.refl _ _)
    · refine StepAt.guarded 22 76 false _ rfl rfl rfl (by decide) (by kernel_rfl) (true) (by intro w v h; (have h : v = .bool false := h); rw [h]; (simp [gv, undef])) (by intro h w; show undef = gv (true) _; rw [h]; rfl) ?_
      intro hc f w' hG hfr hp Kx hK
      have g82 : f 82 = gv (true) (.pointer none) := hp 28 _ 82 rfl rfl (by kernel_rfl)
      clear hfr hp
      clear hc
      simp only [gv_true, gv_false, Bool.not_false, Bool.not_true, Bool.and_true, Bool.true_and] at g82
      go_simp
      refine (same_below (tend_nil w')).mono ?_
      rintro e w2 ⟨rfl, hb⟩
      exact hK _ _ rfl (Below.trans hG (Below.mono hb hG.size)) (Below.mono hb hG.size)
    · refine StepAt.guarded 22 76 false _ rfl rfl rfl (by decide) (by kernel_rfl) (true) (by intro w v h; (have h : v = .bool false := h); rw [h]; (simp [gv, undef])) (by intro h w; show undef = gv (true) _; rw [h]; rfl) ?_
      intro hc f w' hG hfr hp Kx hK
      have g81 : f 81 = gv (true) (.int .i64 0) := hp 27 _ 81 rfl rfl (by kernel_rfl)
      have g83 : f 83 = gv (true) (.int .i64 0) := hp 29 _ 83 rfl rfl (by kernel_rfl)
      clear hfr hp
      clear hc
      simp only [gv_true, gv_false, Bool.not_false, Bool.not_true, Bool.and_true, Bool.true_and] at g81 g83
      go_simp
      exact hK _ _ rfl hG (Below.refl _ _)
    · refine StepAt.guarded 22 76 false _ rfl rfl rfl (by decide) (by kernel_rfl) (true) (by intro w v h; (have h : v = .bool false := h); rw [h]; (simp [gv, undef])) (by intro h w; show undef = gv (true) _; rw [h]; rfl) ?_
      intro hc f w' hG hfr hp Kx hK
      have g5 : f 5 = .pointer none := hfr 5 (by kernel_rfl)
      clear hfr hp
      clear hc
      go_simp
      exact hK _ _ rfl hG (Below.refl _ _)
    · refine StepAt.guarded 22 76 false _ rfl rfl rfl (by decide) (by kernel_rfl) (true) (by intro w v h; (have h : v = .bool false := h); rw [h]; (simp [gv, undef])) (by intro h w; show undef = gv (true) _; rw [h]; rfl) ?_
      intro hc f w' hG hfr hp Kx hK
      have g85 : f 85 = gv (true) (.pointer none) := hp 31 _ 85 rfl rfl (by kernel_rfl)
      clear hfr hp
      clear hc
      simp only [gv_true, gv_false, Bool.not_false, Bool.not_true, Bool.and_true, Bool.true_and] at g85
      go_simp
      refine (same_below (tsynced_nil w')).mono ?_
      rintro e w2 ⟨rfl, hb⟩
      exact hK _ _ rfl (Below.trans hG (Below.mono hb hG.size)) (Below.mono hb hG.size)
    · refine StepAt.guarded 22 76 false _ rfl rfl rfl (by decide) (by kernel_rfl) (true) (by intro w v h; (have h : v = .bool false := h); rw [h]; (simp [gv, undef])) (by intro h w; show undef = gv (true) _; rw [h]; rfl) ?_
      intro hc f w' hG hfr hp Kx hK
      have g84 : f 84 = gv (true) (.int .i64 0) := hp 30 _ 84 rfl rfl (by kernel_rfl)
      have g86 : f 86 = gv (true) (.int .i64 0) := hp 32 _ 86 rfl rfl (by kernel_rfl)
      clear hfr hp
      clear hc
      simp only [gv_true, gv_false, Bool.not_false, Bool.not_true, Bool.and_true, Bool.true_and] at g84 g86
      go_simp
      exact hK _ _ rfl hG (Below.refl _ _)
    · refine StepAt.guarded 22 76 false _ rfl rfl rfl (by decide) (by kernel_rfl) (true) (by intro w v h; (have h : v = .bool false := h); rw [h]; (simp [gv, undef])) (by intro h w; show undef = gv (true) _; rw [h]; rfl) ?_
      intro hc f w' hG hfr hp Kx hK
      have g5 : f 5 = .pointer none := hfr 5 (by kernel_rfl)
      clear hfr hp
      clear hc
      go_simp
      exact hK _ _ rfl hG (Below.refl _ _)
    · refine StepAt.guarded 22 76 false _ rfl rfl rfl (by decide) (by kernel_rfl) (true) (by intro w v h; (have h : v = .bool false := h); rw [h]; (simp [gv, undef])) (by intro h w; show undef = gv (true) _; rw [h]; rfl) ?_
      intro hc f w' hG hfr hp Kx hK
      have g88 : f 88 = gv (true) (.pointer none) := hp 34 _ 88 rfl rfl (by kernel_rfl)
      clear hfr hp
      clear hc
      simp only [gv_true, gv_false, Bool.not_false, Bool.not_true, Bool.and_true, Bool.true_and] at g88
      go_simp
      refine (same_below (tlast_nil w')).mono ?_
      rintro e w2 ⟨rfl, hb⟩
      exact hK _ _ rfl (Below.trans hG (Below.mono hb hG.size)) (Below.mono hb hG.size)
    · refine StepAt.guarded 22 76 false _ rfl rfl rfl (by decide) (by kernel_rfl) (true) (by intro w v h; (have h : v = .bool false := h); rw [h]; (simp [gv, undef])) (by intro h w; show undef = gv (true) _; rw [h]; rfl) ?_
      intro hc f w' hG hfr hp Kx hK
      have g87 : f 87 = gv (true) (.int .i64 0) := hp 33 _ 87 rfl rfl (by kernel_rfl)
      have g89 : f 89 = gv (true) (.int .i64 0) := hp 35 _ 89 rfl rfl (by kernel_rfl)
      clear hfr hp
      clear hc
      simp only [gv_true, gv_false, Bool.not_false, Bool.not_true, Bool.and_true, Bool.true_and] at g87 g89
      go_simp
      exact hK _ _ rfl hG (Below.refl _ _)
    · refine StepAt.guarded 22 76 false _ rfl rfl rfl (by decide) (by kernel_rfl) (true) (by intro w v h; (have h : v = .bool false := h); rw [h]; (simp [gv, undef])) (by intro h w; show undef = gv (true) _; rw [h]; rfl) ?_
      intro hc f w' hG hfr hp Kx hK
      have g5 : f 5 = .pointer none := hfr 5 (by kernel_rfl)
      clear hfr hp
      clear hc
      go_simp
      exact hK _ _ rfl hG (Below.refl _ _)
    · refine StepAt.guarded 22 76 false _ rfl rfl rfl (by decide) (by kernel_rfl) (true) (by intro w v h; (have h : v = .bool false := h); rw [h]; (simp [gv, undef])) (by intro h w; show undef = gv (true) _; rw [h]; rfl) ?_
      intro hc f w' hG hfr hp Kx hK
      have g2 : f 2 = .pointer (some ⟨w.heap.size, 0, none⟩) := hfr 2 (by kernel_rfl)
      clear hfr hp
      clear hc
      have k0 := (HBA5.out.below hG HBA5.out.lt).cell
      go_simp
      exact hK _ _ rfl hG (Below.refl _ _)
    · refine StepAt.guarded 22 76 false _ rfl rfl rfl (by decide) (by kernel_rfl) (true) (by intro w v h; (have h : v = .bool false := h); rw [h]; (simp [gv, undef])) (by intro h w; show undef = gv (true) _; rw [h]; rfl) ?_
      intro hc f w' hG hfr hp Kx hK
      have g91 : f 91 = gv (true) (.pointer none) := hp 37 _ 91 rfl rfl (by kernel_rfl)
      have g92 : f 92 = gv (true) (.agg #[.int .i64 a.kind, .int .i64 a.queue, .int .i64 a.due, .int .i64 a.retry, .int .i64 a.ref, .int .i64 a.born, .string a.topic, .string a.tag, .string a.body, va]) := hp 38 _ 92 rfl rfl (by kernel_rfl)
      clear hfr hp
      clear hc
      simp only [gv_true, gv_false, Bool.not_false, Bool.not_true, Bool.and_true, Bool.true_and] at g91 g92
      go_simp
      refine (HCN.out w').mono ?_
      rintro e w2 ⟨rfl, hb⟩
      exact hK _ _ rfl (Below.trans hG (Below.mono hb hG.size)) (Below.mono hb hG.size)
    · refine StepAt.guarded 22 76 false _ rfl rfl rfl (by decide) (by kernel_rfl) (true) (by intro w v h; (have h : v = .bool false := h); rw [h]; (simp [gv, undef])) (by intro h w; show undef = gv (true) _; rw [h]; rfl) ?_
      intro hc f w' hG hfr hp Kx hK
      have g90 : f 90 = gv (true) (.int .i64 0) := hp 36 _ 90 rfl rfl (by kernel_rfl)
      have g93 : f 93 = gv (true) (.int .i64 0) := hp 39 _ 93 rfl rfl (by kernel_rfl)
      clear hfr hp
      clear hc
      simp only [gv_true, gv_false, Bool.not_false, Bool.not_true, Bool.and_true, Bool.true_and] at g90 g93
      go_simp
      exact hK _ _ rfl hG (Below.refl _ _)
    · refine StepAt.guarded 22 76 false _ rfl rfl rfl (by decide) (by kernel_rfl) (true) (by intro w v h; (have h : v = .bool false := h); rw [h]; (simp [gv, undef])) (by intro h w; show undef = gv (true) _; rw [h]; rfl) ?_
      intro hc f w' hG hfr hp Kx hK
      have g5 : f 5 = .pointer none := hfr 5 (by kernel_rfl)
      clear hfr hp
      clear hc
      go_simp
      exact hK _ _ rfl hG (Below.refl _ _)
    · refine StepAt.guarded 22 76 false _ rfl rfl rfl (by decide) (by kernel_rfl) (true) (by intro w v h; (have h : v = .bool false := h); rw [h]; (simp [gv, undef])) (by intro h w; show undef = gv (true) _; rw [h]; rfl) ?_
      intro hc f w' hG hfr hp Kx hK
      have g95 : f 95 = gv (true) (.pointer none) := hp 41 _ 95 rfl rfl (by kernel_rfl)
      clear hfr hp
      clear hc
      simp only [gv_true, gv_false, Bool.not_false, Bool.not_true, Bool.and_true, Bool.true_and] at g95
      go_simp
      refine (same_below (tids_nil' 0 w')).mono ?_
      rintro e w2 ⟨rfl, hb⟩
      exact hK _ _ rfl (Below.trans hG (Below.mono hb hG.size)) (Below.mono hb hG.size)
    · refine StepAt.guarded 22 76 false _ rfl rfl rfl (by decide) (by kernel_rfl) (true) (by intro w v h; (have h : v = .bool false := h); rw [h]; (simp [gv, undef])) (by intro h w; show undef = gv (true) _; rw [h]; rfl) ?_
      intro hc f w' hG hfr hp Kx hK
      have g96 : f 96 = gv (true) (.slice none 0 0) := hp 42 _ 96 rfl rfl (by kernel_rfl)
      clear hfr hp
      clear hc
      simp only [gv_true, gv_false, Bool.not_false, Bool.not_true, Bool.and_true, Bool.true_and] at g96
      go_simp
      exact hK _ _ rfl hG (Below.refl _ _)
    · refine StepAt.guarded 22 76 false _ rfl rfl rfl (by decide) (by kernel_rfl) (true) (by intro w v h; (have h : v = .bool false := h); rw [h]; (simp [gv, undef])) (by intro h w; show undef = gv (true) _; rw [h]; rfl) ?_
      intro hc f w' hG hfr hp Kx hK
      have g94 : f 94 = gv (true) (.int .i64 0) := hp 40 _ 94 rfl rfl (by kernel_rfl)
      have g97 : f 97 = gv (true) (.int .i64 0) := hp 43 _ 97 rfl rfl (by kernel_rfl)
      clear hfr hp
      clear hc
      simp only [gv_true, gv_false, Bool.not_false, Bool.not_true, Bool.and_true, Bool.true_and] at g94 g97
      go_simp
      exact hK _ _ rfl hG (Below.refl _ _)
    · refine StepAt.guarded 22 76 false _ rfl rfl rfl (by decide) (by kernel_rfl) (true) (by intro w v h; (have h : v = .bool false := h); rw [h]; (simp [gv, undef])) (by intro h w; show undef = gv (true) _; rw [h]; rfl) ?_
      intro hc f w' hG hfr hp Kx hK
      have g98 : f 98 = gv (true) (.int .i64 0) := hp 44 _ 98 rfl rfl (by kernel_rfl)
      clear hfr hp
      clear hc
      simp only [gv_true, gv_false, Bool.not_false, Bool.not_true, Bool.and_true, Bool.true_and] at g98
      go_simp
      exact hK _ _ rfl hG (Below.refl _ _)
    · refine StepAt.plain rfl ?_
      intro f w' hG hfr hp Kx hK
      have g76 : f 76 = .bool false := hp 22 _ 76 rfl rfl (by kernel_rfl)
      have g99 : f 99 = gv (true) (.bool false) := hp 45 _ 99 rfl rfl (by kernel_rfl)
      clear hfr hp
      go_simp
      exact hK _ _ rfl hG (Below.refl _ _)
  · intro f w6 hG hfr hR
    have hback := fr_back (n := 143) (f := f) (D := [54, 55, 56, 57, 58, 59, 60, 61, 62, 63, 64, 65, 66, 67, 68, 69, 70, 71, 72, 73, 74, 75, 76, 77, 78, 79, 80, 81, 82, 83, 84, 85, 86, 87, 88, 89, 90, 91, 92, 93, 94, 95, 96, 97, 98, 99, 100]) rfl (by kernel_rfl) hfr
    have y100 : f 100 = .bool false := hR 46 _ 100 rfl rfl
    rw [hback]
    simp only [mixL, List.elem_eq_contains, List.contains_cons, List.contains_nil, Nat.reduceBEq, Nat.reduceAdd, Bool.or_false, Bool.or_true, Bool.false_or, Bool.true_or, cond_false, cond_true, Bool.or_self, Nat.zero_add, y100]
    have HG6 := Lib.hid hG
    clear hR hG hfr hback y100
    have HBL6 := Lib.hid (HBL5.out.trans (HG6.out.mono HBL5.out.size))
    have HTB6 : Hid (Tab10 w6) := Lib.hid (tab_chg HTB.out (below_chg (HLX.out.trans (HBL6.out.mono HLX.out.size))))
    have HEND6 : Hid (∀ W, Below w6.heap.size w6 W → Below w.heap.size w W) := Lib.hid (fun W h => HLX.out.trans ((HBL6.out.trans (h.mono HBL6.out.size)).mono HLX.out.size))
    clear HBL1 HBL2 HBL3 HBL4 HBLx HBL5 HBA HBA5 HG6 HSA HA HCN HTB HFA HBL6
    have HN6 := Lib.hid (new_any 10000 w6)
    go_wp2_with fail
    refine HN6.out.mono ?_
    rintro e w7 ⟨rfl, hd0, hb0⟩
    obtain ⟨g, hg⟩ : ∃ g : Gh, g = ⟨w6.heap.size, none, []⟩ := ⟨_, rfl⟩
    have hdg : DiskG w6 w7 w6.heap.size g (newSt 10000) := ⟨by rw [hg]; exact hd0, by rw [hg], Chg.of_below hb0, fun k hk => by rw [hg] at hk; simp [Gh.fp] at hk; omega⟩
    have HO := Lib.hid (topen_new hdg HTB6.out)
    clear hd0 hb0 hg hdg HN6
    go_wp2_with fail
    refine HO.out.mono ?_
    rintro e w8 ⟨tb, t0, g2, m2, st2, rfl, x1, x2, x3, x4, x5, x6, x7, x8, x9, x10, x11, x12⟩
    have hsz := new_size x9 x7 x12
    have HX := Lib.hid (And.intro x2 (And.intro x4 (And.intro x5 (And.intro x9 (And.intro x10 hsz)))))
    clear x1 x2 x3 x4 x5 x6 x7 x8 x9 x10 x11 x12 hsz HO
    obtain ⟨s, hs⟩ : ∃ s : ByteArray, s = ⟨(recB (inM at_)).toArray⟩ := ⟨_, rfl⟩
    have hs200 : s.size ≤ 200 := by rw [hs, sizeL]; exact inM_len at_
    have HP : Hid (Calls Tryz.prog 26 #[.agg #[.int .i64 4, .int .i64 0, .int .i64 0, .int .i64 0, .int .i64 at_, .int .i64 0, .string ⟨#[]⟩, .string ⟨#[]⟩, .string ⟨#[]⟩, .slice none 0 0]] w8 (StrTo s w8)) := Lib.hid (by
      have := rput_any (inM at_) (.slice none 0 0) w8 ⟨none, 0, rfl, .inl rfl⟩ (inM_right a0 a255)
      rw [putO_some (inM_right a0 a255) (by show ¬ (4 : Int) = 0; decide)] at this
      rw [hs]
      exact this)
    clear hs
    go_wp2_with fail
    refine HP.out.mono ?_
    rintro e w9 ⟨rfl, hb9⟩
    have HT9 := HX.out.1.new (below_chg hb9)
    have hwt := outM_right hs200
    obtain ⟨bs, hbs⟩ : ∃ bs, bs = recB (outM s) := ⟨_, rfl⟩
    have hput : putO (outM s) = some bs := by rw [hbs]; exact putO_some hwt (by show ¬ (1 : Int) = 0; decide)
    obtain ⟨l3, l327⟩ := putO_len (M := outM s) (by show ¬ (1 : Int) = 0; decide) hput
    have hA := app_easy HT9 HX.out.2.2.2.1 (outM s) (.slice none 0 0) ⟨none, 0, rfl, .inl rfl⟩ ⟨none, 0, 0, rfl, Nat.le_refl _⟩ ⟨by unfold maxLen; show (⟨#[97]⟩ : ByteArray).size ≤ _; decide, by unfold maxLen; show (⟨#[]⟩ : ByteArray).size ≤ _; decide, by show s.size ≤ 1000000; omega, by show (0 : Nat) ≤ 1000000; decide, fun t ht => by cases ht⟩ (by show ¬ (1 : Int) = 0; decide) hput (by omega) (by rw [HX.out.2.2.2.2.2, show st2.cap = 10000 from HX.out.2.2.2.2.1.trans rfl]; omega) (by simp) (by rw [HX.out.2.2.1]; simp) (by rw [HX.out.2.1]; simp)
    have hA : Calls Tryz.prog 15 #[.pointer (some ⟨tb, 0, none⟩), .agg #[.int .i64 1, .int .i64 0, .int .i64 0, .int .i64 0, .int .i64 0, .int .i64 0, .string ⟨#[97]⟩, .string ⟨#[]⟩, .string s, .slice none 0 0]] w9 fun e w' => e = .returned (.tuple #[.int .i64 0, .int .i64 0]) ∧ TAppTo w6 w9 tb t0 g2 st2 m2 2 0 [] bs 0 bs.length 0 w' := hA
    obtain ⟨L, hL⟩ : ∃ L, L = bs.length := ⟨_, rfl⟩
    rw [← hL] at hA l3 l327
    have HA := Lib.hid hA
    have HIDS := Lib.hid (And.intro HX.out.2.1 (And.intro HX.out.2.2.1 hL))
    clear hA hb9 HT9 hput hbs hwt HX HP hL
    go_wp2_with fail
    refine HA.out.mono ?_
    rintro e w10 ⟨rfl, g4, m4, st4, v4, j4, y1, y2, y3, y4, y5, y6⟩
    have hE := y5.row.end_
    rw [List.nil_append, ← HIDS.out.2.2, show 1024 * 0 + L = L by omega] at hE
    have hbg := y5.row.beg
    rw [Nat.mul_zero] at hbg
    have hM : ∀ k : Nat, 1 ≤ k → (getK (t0.noted v4 0 (L : Int) 0).M (k : Int)).getD 0 = 0 := fun k hk => by
      simp only [TapeM.noted, HIDS.out.2.1]
      have h0 : ¬ (0 : Int) = (k : Int) := by omega
      simp [dropK, getK, h0]
    have hids : (t0.noted v4 0 (L : Int) 0).ids = [0] := by simp [TapeM.noted, HIDS.out.1]
    obtain ⟨t1, ht1⟩ : ∃ t1, t1 = t0.noted v4 0 (L : Int) 0 := ⟨_, rfl⟩
    rw [← ht1] at y1 hM hids
    have HT := Lib.hid y1
    have HE := Lib.hid hE
    have HBG := Lib.hid hbg
    have HM := Lib.hid hM
    have HI := Lib.hid hids
    clear y1 y2 y3 y4 y5 y6 hE hbg hM hids ht1 HIDS HA
    go_wp2_with fail
    go_loopw [21] (fun i wr => ∃ k : Nat, 1 ≤ k ∧ k ≤ L ∧ i = .int .i64 k ∧ TapeG w6 wr tb t1 g4 st4 m4) (fun i _ => L - (intOf i).toNat)
    case atStart => exact ⟨1, Nat.le_refl _, by omega, rfl, HT.out⟩
    case round =>
      obtain ⟨k, hk1, hk, rfl, hT⟩ := hrel
      have HTr := Lib.hid hT
      have hte := tend_any hT
      rw [HE.out] at hte
      have HTE := Lib.hid hte
      clear hT hte
      go_wp2_with fail
      refine HTE.out.mono ?_
      rintro e w11 ⟨rfl, rfl⟩
      by_cases hlt : k < L
      · have HR := Lib.hid (tread_none HTr.out (k : Int) (twf_nat k (by omega)) (by rw [HBG.out]; omega) (HM.out k hk1))
        go_wp2_with fail
        refine HR.out.mono ?_
        rintro e w12 ⟨vk, rfl, hsv, _, hb12⟩
        obtain ⟨pv2, cv2, hvk2⟩ := hsv.form
        subst hvk2
        have HT12 := Lib.hid (HTr.out.new (below_chg hb12))
        clear hsv hb12 HR
        unfold MsgM.val MsgM.cells
        simp only [zeroM]
        go_wp2_with fail
        exact ⟨⟨k + 1, by omega, by omega, by go_num, HT12.out.new (Chg.alloc _ (Chg.refl _ _) _)⟩, by simp [intOf]; omega⟩
      · obtain rfl : k = L := by omega
        have HIA := Lib.hid (tids_any HTr.out.tape (by rw [HI.out]; exact List.pairwise_singleton _ _) (by rw [HI.out]; decide) 0)
        rw [HI.out, show ([0] : List Int).drop (lowN [0] 0) = [0] from rfl] at HIA
        go_wp2_with fail
        refine HIA.out.mono ?_
        rintro e w12 ⟨v2, rfl, ho2, hb12⟩
        obtain ⟨p2, c2, hv2⟩ := own_slice ho2
        subst hv2
        have HB12 := Lib.hid hb12
        clear ho2 hb12 HIA
        go_wp2_with fail
        go_ret
        exact ⟨by simp, HEND6.out _ ((chg_below HTr.out.chg).trans (HB12.out.mono HTr.out.chg.size))⟩
end Go.Proofs.YthkmnnokbocegaaGreatDoor

