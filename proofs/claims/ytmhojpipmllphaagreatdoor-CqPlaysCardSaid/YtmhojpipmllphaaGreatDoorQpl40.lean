/-
  Part 40: what the statement needs of these texts: QWa, QW0, QW1, QW2, QW3, QW4, QW6, QWs, QWf.
-/
import Derived.BigQuiet
import Derived.BigRegion
import Derived.Deep.AppendLies
import Derived.Deep.CutBlock
import Derived.Deep.DeepCutAuto
import Derived.Deep.DrawnRows
import Derived.Deep.Grids
import Derived.Deep.OwnRows
import Derived.Deep.QuietTactic
import Derived.Deep.RegionHeld3
import Derived.DeepKeys4
import Derived.IntWalk
import Derived.Laws.CopyOwn
import Derived.Laws.OwnMore
import Derived.Laws.RangeAny
import Derived.Lib.AppendStr
import Derived.Lib.AppendZerosOnto
import Derived.Lib.Atoi
import Derived.Lib.AtoiErrMem
import Derived.Lib.BufferRead
import Derived.Lib.BufferWrite
import Derived.Lib.Builder
import Derived.Lib.Hide
import Derived.Lib.ItoaNum
import Derived.Lib.LaidTab
import Derived.Lib.MinMax
import Derived.Lib.OthersKept
import Derived.Lib.Repeat
import Derived.Lib.SliceRun
import Derived.Lib.Slices
import Derived.Lib.SmallJoins
import Derived.Lib.Strings
import Derived.Lib.UnsafeStr
import Derived.Maps.AppendAt
import Derived.Maps.OwnSet
import Derived.Maps.RangeWalk
import Derived.OpenShut
import Derived.Orders
import Derived.ProofKit
import Derived.RowKit
import Derived.Shelf.GgClosure.StringsIndexFunc
import Derived.Shelf.GgClosure.StringsIndexFuncTop
import Derived.Shelf.LaysM
import Derived.Shelf.SlSortCmp.NoneTotal
import Derived.Shelf.Slices.In.SortNone
import Derived.Shelf.Slices.SearchI
import Derived.Shelf.Small.Wraps
import Derived.Shelf.Sort.Plain
import Derived.Shelf.Strconv.Atoi
import Derived.Shelf.Strconv.Itoa3
import Derived.Shelf.Strings.Builder1
import Derived.Shelf.Strings.Prefix
import Derived.Shelf.Strings.Repeat
import Derived.Sort.KeysCollected
import Derived.Sort.OwnSorted
import Derived.StillTailTactics
import Derived.StringKeys
import Derived.Test.YtmhojpipmllphaaGreatDoorProg
import Derived.Test.YtmhojpipmllphaaGreatDoorRows
import Derived.WalkKit
import Derived.WalkLawsBesides
import Derived.WalkSmall
import Derived.WalkSpells
import Derived.Test.YtmhojpipmllphaaGreatDoorQpl1
import Derived.Test.YtmhojpipmllphaaGreatDoorQpl2
import Derived.Test.YtmhojpipmllphaaGreatDoorQpl3
import Derived.Test.YtmhojpipmllphaaGreatDoorQpl4
import Derived.Test.YtmhojpipmllphaaGreatDoorQpl5
import Derived.Test.YtmhojpipmllphaaGreatDoorQpl6
import Derived.Test.YtmhojpipmllphaaGreatDoorQpl7
import Derived.Test.YtmhojpipmllphaaGreatDoorQpl8
import Derived.Test.YtmhojpipmllphaaGreatDoorQpl10
import Derived.Test.YtmhojpipmllphaaGreatDoorQpl11
import Derived.Test.YtmhojpipmllphaaGreatDoorQpl12
import Derived.Test.YtmhojpipmllphaaGreatDoorQpl13
import Derived.Test.YtmhojpipmllphaaGreatDoorQpl14
import Derived.Test.YtmhojpipmllphaaGreatDoorQpl15
import Derived.Test.YtmhojpipmllphaaGreatDoorQpl16
import Derived.Test.YtmhojpipmllphaaGreatDoorQpl17
import Derived.Test.YtmhojpipmllphaaGreatDoorQpl18
import Derived.Test.YtmhojpipmllphaaGreatDoorQpl19
import Derived.Test.YtmhojpipmllphaaGreatDoorQpl20
import Derived.Test.YtmhojpipmllphaaGreatDoorQpl21
import Derived.Test.YtmhojpipmllphaaGreatDoorQpl22
import Derived.Test.YtmhojpipmllphaaGreatDoorQpl23
import Derived.Test.YtmhojpipmllphaaGreatDoorQpl24
import Derived.Test.YtmhojpipmllphaaGreatDoorQpl26
import Derived.Test.YtmhojpipmllphaaGreatDoorQpl27
import Derived.Test.YtmhojpipmllphaaGreatDoorQpl28
import Derived.Test.YtmhojpipmllphaaGreatDoorQpl29
import Derived.Test.YtmhojpipmllphaaGreatDoorQpl30
import Derived.Test.YtmhojpipmllphaaGreatDoorQpl31
import Derived.Test.YtmhojpipmllphaaGreatDoorQpl32
import Derived.Test.YtmhojpipmllphaaGreatDoorQpl33
import Derived.Test.YtmhojpipmllphaaGreatDoorQpl34
import Derived.Test.YtmhojpipmllphaaGreatDoorQpl35
import Derived.Test.YtmhojpipmllphaaGreatDoorQpl36
import Derived.Test.YtmhojpipmllphaaGreatDoorQpl37
import Derived.Test.YtmhojpipmllphaaGreatDoorQpl38
import Derived.Test.YtmhojpipmllphaaGreatDoorQpl39
namespace Go.Proofs.YtmhojpipmllphaaGreatDoor
open Go.RowKit Go.Deep
set_option linter.unusedVariables false
set_option linter.unusedSimpArgs false
attribute [local go_sem] fr_opt

set_option maxRecDepth 100000 in
theorem fr_lit400 (f : Nat → Value) : Fr 400 f = ⟨#[f 0, f 1, f 2, f 3, f 4, f 5, f 6, f 7, f 8, f 9, f 10, f 11, f 12, f 13, f 14, f 15, f 16, f 17, f 18, f 19, f 20, f 21, f 22, f 23, f 24, f 25, f 26, f 27, f 28, f 29, f 30, f 31, f 32, f 33, f 34, f 35, f 36, f 37, f 38, f 39, f 40, f 41, f 42, f 43, f 44, f 45, f 46, f 47, f 48, f 49, f 50, f 51, f 52, f 53, f 54, f 55, f 56, f 57, f 58, f 59, f 60, f 61, f 62, f 63, f 64, f 65, f 66, f 67, f 68, f 69, f 70, f 71, f 72, f 73, f 74, f 75, f 76, f 77, f 78, f 79, f 80, f 81, f 82, f 83, f 84, f 85, f 86, f 87, f 88, f 89, f 90, f 91, f 92, f 93, f 94, f 95, f 96, f 97, f 98, f 99, f 100, f 101, f 102, f 103, f 104, f 105, f 106, f 107, f 108, f 109, f 110, f 111, f 112, f 113, f 114, f 115, f 116, f 117, f 118, f 119, f 120, f 121, f 122, f 123, f 124, f 125, f 126, f 127, f 128, f 129, f 130, f 131, f 132, f 133, f 134, f 135, f 136, f 137, f 138, f 139, f 140, f 141, f 142, f 143, f 144, f 145, f 146, f 147, f 148, f 149, f 150, f 151, f 152, f 153, f 154, f 155, f 156, f 157, f 158, f 159, f 160, f 161, f 162, f 163, f 164, f 165, f 166, f 167, f 168, f 169, f 170, f 171, f 172, f 173, f 174, f 175, f 176, f 177, f 178, f 179, f 180, f 181, f 182, f 183, f 184, f 185, f 186, f 187, f 188, f 189, f 190, f 191, f 192, f 193, f 194, f 195, f 196, f 197, f 198, f 199, f 200, f 201, f 202, f 203, f 204, f 205, f 206, f 207, f 208, f 209, f 210, f 211, f 212, f 213, f 214, f 215, f 216, f 217, f 218, f 219, f 220, f 221, f 222, f 223, f 224, f 225, f 226, f 227, f 228, f 229, f 230, f 231, f 232, f 233, f 234, f 235, f 236, f 237, f 238, f 239, f 240, f 241, f 242, f 243, f 244, f 245, f 246, f 247, f 248, f 249, f 250, f 251, f 252, f 253, f 254, f 255, f 256, f 257, f 258, f 259, f 260, f 261, f 262, f 263, f 264, f 265, f 266, f 267, f 268, f 269, f 270, f 271, f 272, f 273, f 274, f 275, f 276, f 277, f 278, f 279, f 280, f 281, f 282, f 283, f 284, f 285, f 286, f 287, f 288, f 289, f 290, f 291, f 292, f 293, f 294, f 295, f 296, f 297, f 298, f 299, f 300, f 301, f 302, f 303, f 304, f 305, f 306, f 307, f 308, f 309, f 310, f 311, f 312, f 313, f 314, f 315, f 316, f 317, f 318, f 319, f 320, f 321, f 322, f 323, f 324, f 325, f 326, f 327, f 328, f 329, f 330, f 331, f 332, f 333, f 334, f 335, f 336, f 337, f 338, f 339, f 340, f 341, f 342, f 343, f 344, f 345, f 346, f 347, f 348, f 349, f 350, f 351, f 352, f 353, f 354, f 355, f 356, f 357, f 358, f 359, f 360, f 361, f 362, f 363, f 364, f 365, f 366, f 367, f 368, f 369, f 370, f 371, f 372, f 373, f 374, f 375, f 376, f 377, f 378, f 379, f 380, f 381, f 382, f 383, f 384, f 385, f 386, f 387, f 388, f 389, f 390, f 391, f 392, f 393, f 394, f 395, f 396, f 397, f 398, f 399], []⟩ := rfl
theorem lit_fr400 (l : List Value) (h : l.length = 400) : (⟨l.toArray, []⟩ : Act) = Fr 400 (fun t => l.getD t undef) := by
  unfold Fr
  congr 2
  apply List.ext_getElem
  · simp [h]
  · intro i h1 h2
    simp [h1]
def findB (n : Nat) : Code → Option Code
  | .block m c => if m = n then some (.block m c) else findB n c
  | .seq a b => match findB n a with
    | some c => some c
    | none => findB n b
  | .loop c => findB n c
  | .scope c => findB n c
  | _ => none
def endsB (n : Nat) : Code → Bool
  | .block m _ => m == n
  | .seq _ b => endsB n b
  | _ => false
def aftB (n : Nat) : Code → Option Code
  | .seq a b => if endsB n a then some b else match aftB n a with
    | some c => some c
    | none => aftB n b
  | .block _ c => aftB n c
  | .loop c => aftB n c
  | .scope c => aftB n c
  | _ => none
def inB : Code → Code
  | .block _ c => c
  | c => c
/-- The switch; what follows it in a round. -/
noncomputable def swC : Code := (Tryz.f3.body.bind (findB 3)).getD .skip
noncomputable def tlC : Code := (((Tryz.f3.body.bind (findB 1)).map inB).bind (aftB 3)).getD .skip
def oB (x : OpQ) : Obj := .cells #[.int .i64 x.k, .int .i64 x.q, .int .i64 x.n, .string x.t, .int .i64 x.p.a, .int .i64 x.p.b, .int .i64 x.p.c, .int .i64 x.p.d] 34 (0, 0)
def mB (mt : ByteArray) (mq : Int) (b ls : Nat) (sl : Value) : Obj := .cells #[.string mt, .int .i64 mq, .int .i64 (b : Int), .int .i64 (ls : Int), sl] 39 (0, 0)
/-- What find told, and the model that the law copied. -/
def Found (w : World) (lo : Nat) (Ms : List MoM) (kq : QK) (i : Int) (sl : Value) : Prop :=
  (∃ (j : Nat) (m : MoM), Ms[j]? = some m ∧ m.key = kq.1 ∧ i = (j : Int) ∧ sl = m.sl ∧ m.line = lnQ Ms kq) ∨ (i = -1 ∧ sl = .slice none 0 0 ∧ (∀ m ∈ Ms, m.key ≠ kq.1) ∧ lnQ Ms kq = (0, 0, []))
/-- What holds where the switch begins. -/
structure SwIn (f : Nat → Value) (w wr w4 : World) (qb k lo : Nat) (vv : Value) (Ms : List MoM) (B7 B10 : Nat) (x : OpQ) (kq : QK) (i : Int) (mt : ByteArray) (mq : Int) (sl : Value) : Prop where
  f3 : f 3 = .pointer (some ⟨qb, 0, none⟩)
  f5 : f 5 = vv
  f7 : f 7 = .pointer (some ⟨B7, 0, none⟩)
  f8 : f 8 = .int .i64 (refQ x.t x.q)
  f9 : f 9 = .int .i64 i
  f10 : f 10 = .pointer (some ⟨B10, 0, none⟩)
  f11 : f 11 = .int .i64 (((lnQ Ms kq).1 + (lnQ Ms kq).2.2.length : Nat) : Int)
  f79 : f 79 = .int .i64 x.k
  pl : PlI w wr qb k lo vv Ms
  hk : k < 100
  hc : Chg (fun _ => False) wr w4
  b7 : wr.heap.size ≤ B7
  b10 : wr.heap.size ≤ B10
  oc : w4.heap[B7]? = some (oB x)
  mc : w4.heap[B10]? = some (mB mt mq (lnQ Ms kq).1 (lnQ Ms kq).2.1 sl)
  ne : B7 ≠ B10
  kq1 : kq.1 = (x.t, x.q)
  ts : x.t.size ≤ 100
  wf : x.wf
  fd : Found wr lo Ms kq i sl
/-- What holds behind the switch. -/
def SwO (f : Nat → Value) (w : World) (qb k lo : Nat) (a : Act) (w' : World) : Prop := ∃ (f' : Nat → Value) (vv : Value) (Ms : List MoM), a = Fr 400 f' ∧ f' 0 = f 0 ∧ f' 3 = f 3 ∧ f' 36 = f 36 ∧ f' 37 = f 37 ∧ f' 38 = f 38 ∧ f' 5 = vv ∧ PlI w w' qb (k + 1) lo vv Ms
theorem SwIn.cells {f : Nat → Value} {w wr w4 : World} {qb k lo : Nat} {vv : Value} {Ms : List MoM} {B7 B10 : Nat} {x : OpQ} {kq : QK} {i : Int} {mt : ByteArray} {mq : Int} {sl : Value} (h : SwIn f w wr w4 qb k lo vv Ms B7 B10 x kq i mt mq sl) {S : Nat → Prop} {W : World} (hc : Chg S w4 W) (hS : ∀ q, S q → q < wr.heap.size) :
    W.cell? ⟨B7, 0, none⟩ = some (.int .i64 x.k) ∧ W.cell? ⟨B7, 1, none⟩ = some (.int .i64 x.q) ∧ W.cell? ⟨B7, 2, none⟩ = some (.int .i64 x.n) ∧ W.cell? ⟨B7, 3, none⟩ = some (.string x.t) ∧
    W.cell? ⟨B7, 4, none⟩ = some (.int .i64 x.p.a) ∧ W.cell? ⟨B7, 5, none⟩ = some (.int .i64 x.p.b) ∧ W.cell? ⟨B7, 6, none⟩ = some (.int .i64 x.p.c) ∧ W.cell? ⟨B7, 7, none⟩ = some (.int .i64 x.p.d) ∧
    W.cell? ⟨B10, 2, none⟩ = some (.int .i64 ((lnQ Ms kq).1 : Int)) ∧ W.cell? ⟨B10, 3, none⟩ = some (.int .i64 ((lnQ Ms kq).2.1 : Int)) ∧ W.cell? ⟨B10, 4, none⟩ = some sl := by
  have h1 := hc.heap h.oc (fun hx => by have := hS _ hx; have := h.b7; omega)
  have h2 := hc.heap h.mc (fun hx => by have := hS _ hx; have := h.b10; omega)
  unfold oB at h1
  unfold mB at h2
  refine ⟨?_, ?_, ?_, ?_, ?_, ?_, ?_, ?_, ?_, ?_, ?_⟩ <;> first | (simp [World.cell?, h1]; done) | (simp [World.cell?, h2]; done)
theorem refQ_ok {t : ByteArray} {q : Int} (h : refQ t q = 0) : topicB t = true ∧ 0 ≤ q ∧ q ≤ 2 := by
  unfold refQ at h
  by_cases h1 : topicB t = true
  · rw [if_pos h1] at h
    by_cases h2 : 0 ≤ q ∧ q ≤ 2
    · exact ⟨h1, h2⟩
    · rw [if_neg h2] at h
      cases h
  · rw [if_neg h1] at h
    cases h
theorem info_mo : (Tryz.prog.info? 39).map (fun i => (i.zero, i.size, i.bytes)) = some (some (.agg #[.string ⟨#[]⟩, .int .i64 0, .int .i64 0, .int .i64 0, .slice none 0 0]), 5, 64) := by kernel_rfl
theorem info_pl : (Tryz.prog.info? 32).map (fun i => (i.zero, i.size, i.bytes)) = some (some (.agg #[.int .i64 0, .int .i64 0, .int .i64 0, .int .i64 0]), 4, 32) := by kernel_rfl
theorem plC_len (l : List PlM) : (l.flatMap plCells).length = l.length * 4 := by
  induction l with
  | nil => rfl
  | cons x l ih => rw [List.flatMap_cons, List.length_append, ih, List.length_cons]; show 4 + _ = _; omega
/-- A queue's model, new. -/
def moN (t : ByteArray) (q : Int) (b : Nat) : MoM := ⟨t, q, b, b, [], .slice none 0 0⟩
theorem moN_one (t : ByteArray) (q : Int) (b : Nat) : ∀ v ∈ (moN t q b).cells, v.oneCell' = true := by
  intro v hv
  simp [MoM.cells, moN] at hv
  rcases hv with rfl | rfl | rfl | rfl | rfl <;> rfl
theorem plC_one (p : PlM) : ∀ v ∈ plCells p, v.oneCell' = true := by
  intro v hv
  simp [plCells] at hv
  rcases hv with rfl | rfl | rfl | rfl <;> rfl
theorem SwIn.els {f : Nat → Value} {w wr w4 : World} {qb k lo : Nat} {vv : Value} {Ms : List MoM} {B7 B10 : Nat} {x : OpQ} {kq : QK} {i : Int} {mt : ByteArray} {mq : Int} {sl : Value} (h : SwIn f w wr w4 qb k lo vv Ms B7 B10 x kq i mt mq sl) {W : World} (hc : Chg (fun _ => False) wr W) :
    ∃ (p : Option Addr) (cap : Nat), sl = .slice p (lnQ Ms kq).2.2.length cap ∧ ∀ i y, (lnQ Ms kq).2.2[i]? = some y → ∃ q, p = some ⟨q, 0, none⟩ ∧ ∀ j, j < 4 → W.cell? ⟨q, i * 4 + j, none⟩ = (plCells y)[j]? := by
  rcases h.fd with ⟨j, m, hj, hmk, rfl, rfl, hml⟩ | ⟨rfl, rfl, hno, hln⟩
  · have he := (h.pl.mod.new hc).es m (List.mem_of_getElem? hj)
    have hb : m.sl.ownBlock ≠ some W.heap.size := fun hx => by
      have := (he.lt _ hx).2
      omega
    obtain ⟨p, cap, e, _, hx⟩ := he.plc hb
    rw [← hml]
    exact ⟨p, cap, e, hx⟩
  · rw [hln]
    exact ⟨none, 0, rfl, fun i y hy => by cases hy⟩
theorem PlI.wfQ {w0 w : World} {qb n lo : Nat} {v : Value} {Ms : List MoM} (h : PlI w0 w qb n lo v Ms) (k : QK) : (lnQ Ms k).1 ≤ (lnQ Ms k).2.1 ∧ (lnQ Ms k).2.1 ≤ (lnQ Ms k).1 + (lnQ Ms k).2.2.length ∧ (lnQ Ms k).1 ≤ 1099511627776 ∧ (lnQ Ms k).2.2.length ≤ 2 * n := by
  unfold lnQ
  cases hg : Ms.find? fun m => decide (m.key = k.1) with
  | none => exact ⟨Nat.le_refl _, Nat.le_refl _, Nat.zero_le _, Nat.zero_le _⟩
  | some m => exact h.wf m (List.mem_of_find?_eq_some hg)
theorem PlI.form {w0 w : World} {qb n lo : Nat} {v : Value} {Ms : List MoM} (h : PlI w0 w qb n lo v Ms) : ∃ p cap, v = .slice p Ms.length cap := by
  obtain ⟨p, cap, e, _⟩ := h.mod.find
  exact ⟨p, cap, e⟩
theorem PlI.lenM {w0 w : World} {qb n lo : Nat} {v : Value} {Ms : List MoM} (h : PlI w0 w qb n lo v Ms) : Ms.length ≤ 2 * n := by
  obtain ⟨mv, g, st, L, h1, h2, h3, h4, _⟩ := h.ex
  have := h2.len
  omega
end Go.Proofs.YtmhojpipmllphaaGreatDoor

namespace Go.Proofs.YtmhojpipmllphaaGreatDoor
open Go.RowKit Go.Deep
set_option linter.unusedVariables false
set_option linter.unusedSimpArgs false
attribute [local go_sem] fr_opt
set_option maxHeartbeats 16000000 in
set_option maxRecDepth 100000 in
theorem sw_0bad (f : Nat → Value) {w wr w4 : World} {qb k lo : Nat} {vv : Value} {Ms : List MoM} {B7 B10 : Nat} {x : OpQ} {kq : QK} {i : Int} {mt : ByteArray} {mq : Int} {sl : Value} (h : SwIn f w wr w4 qb k lo vv Ms B7 B10 x kq i mt mq sl) (J : Act → World → Prop) (Q : Exit → Act → World → Prop) (hJ : ∀ a w', SwO f w qb k lo a w' → J a w') (k0 : x.k = 0) (hr : (refQ x.t x.q != 0) = true ∨ x.p.fit = false) :
    Code.wp Tryz.prog swC (Exit.then J Q) (Fr 400 f) w4 := by
  have H := Lib.hid h
  obtain ⟨f3, f5, f7, f8, f9, f10, f11, f79, hpl, hk, hc, hb7, hb10, _, _, _, hkq, hts, hwf, hfd⟩ := id h
  obtain ⟨e0, e1, e2, e3, e4, e5, e6, e7, m2, m3, m4⟩ := h.cells (Chg.refl (fun _ => False) w4) (fun _ x => x.elim)
  have HPL := Lib.hid hpl
  have HC := Lib.hid hc
  have HKQ := Lib.hid hkq
  have HFD := Lib.hid hfd
  have HJ := Lib.hid hJ
  clear h hJ hpl hc hkq hfd hwf hb7 hb10

  obtain ⟨xk, xq, xn, xt, ⟨pa, pb, pc, pd⟩⟩ := x
  dsimp only at k0 f8 f79 e0 e1 e2 e3 e4 e5 e6 e7 hts hr
  subst k0
  rw [fr_lit400 f, f3, f5, f7, f8, f9, f10, f11, f79]
  conv => arg 2; whnf
  have hEND : ∀ W, Below w4.heap.size w4 W → PlI w W qb (k + 1) lo vv Ms := fun W hb => ((HPL.out.new HC.out).new (Chg.of_below hb)).more
  have hCEL : ∀ W, Below w4.heap.size w4 W → Hid (W.cell? ⟨B7, 4, none⟩ = some (.int .i64 pa) ∧ W.cell? ⟨B7, 5, none⟩ = some (.int .i64 pb) ∧ W.cell? ⟨B7, 6, none⟩ = some (.int .i64 pc) ∧ W.cell? ⟨B7, 7, none⟩ = some (.int .i64 pd)) := fun W hb => Lib.hid (by
    obtain ⟨e0, e1, e2, e3, e4, e5, e6, e7, m2, m3, m4⟩ := H.out.cells (S := fun _ => False) (Chg.of_below hb) (fun _ x => x.elim)
    exact ⟨e4, e5, e6, e7⟩)
  have HEND := Lib.hid hEND
  have HCEL := Lib.hid hCEL
  clear hEND hCEL
  by_cases hr1 : (refQ xt xq != 0) = true
  · have hr2 : (refQ xt xq == 0) = false := by simpa using hr1
    have HB := Lib.hid (qadd_bad qb xt (by unfold maxLen; omega) xq ⟨pa, pb, pc, pd⟩ w4 (refQ xt xq) rfl hr1)
    unfold PlM.val at HB
    dsimp only at HB
    clear hr
    go_wp2_with fail
    refine HB.out.mono ?_
    rintro e w5 ⟨rfl, hb5⟩
    obtain ⟨e4, e5, e6, e7⟩ := (HCEL.out w5 hb5).out
    have HB5 := Lib.hid hb5
    clear hb5
    go_wp2_with fail
    exact HJ.out _ _ ⟨_, vv, Ms, lit_fr400 _ rfl, rfl, f3.symm, rfl, rfl, rfl, rfl, HEND.out _ HB5.out⟩
  · have hr0 : refQ xt xq = 0 := by simpa using hr1
    have hf : (PlM.mk pa pb pc pd).fit = false := hr.resolve_left hr1
    have HB := Lib.hid (qadd_arg qb xt (by unfold maxLen; omega) xq ⟨pa, pb, pc, pd⟩ w4 hr0 hf)
    unfold PlM.val at HB
    dsimp only at HB
    rw [hr0]
    have hR : ∀ W, Calls Tryz.prog 10 #[.agg #[.int .i64 pa, .int .i64 pb, .int .i64 pc, .int .i64 pd]] W fun e w' => e = .returned (.bool false) ∧ Below W.heap.size W w' := fun W => by
      have h := right_any pa pb pc pd W
      rw [hf] at h
      exact h
    have HR := Lib.hid hR
    clear hR
    clear hr hf hr1 hr0
    go_wp2_with fail
    refine HB.out.mono ?_
    rintro e w5 ⟨rfl, hb5⟩
    obtain ⟨e4, e5, e6, e7⟩ := (HCEL.out w5 hb5).out
    have HB5 := Lib.hid hb5
    clear hb5
    go_wp2_with fail
    refine (HR.out _).mono ?_
    rintro e w6 ⟨rfl, hb6⟩
    have hbf := HB5.out.trans (hb6.mono HB5.out.size)
    have HBF := Lib.hid hbf
    clear hb6 hbf
    go_wp2_with fail
    exact HJ.out _ _ ⟨_, vv, Ms, lit_fr400 _ rfl, rfl, f3.symm, rfl, rfl, rfl, rfl, HEND.out _ HBF.out⟩
end Go.Proofs.YtmhojpipmllphaaGreatDoor

namespace Go.Proofs.YtmhojpipmllphaaGreatDoor
open Go.RowKit Go.Deep
set_option linter.unusedVariables false
set_option linter.unusedSimpArgs false
attribute [local go_sem] fr_opt
set_option maxHeartbeats 16000000 in
set_option maxRecDepth 100000 in
theorem sw_1 (f : Nat → Value) {w wr w4 : World} {qb k lo : Nat} {vv : Value} {Ms : List MoM} {B7 B10 : Nat} {x : OpQ} {kq : QK} {i : Int} {mt : ByteArray} {mq : Int} {sl : Value} (h : SwIn f w wr w4 qb k lo vv Ms B7 B10 x kq i mt mq sl) (J : Act → World → Prop) (Q : Exit → Act → World → Prop) (hJ : ∀ a w', SwO f w qb k lo a w' → J a w') (kn : k ≤ 100) (k1 : x.k = 1) :
    Code.wp Tryz.prog swC (Exit.then J Q) (Fr 400 f) w4 := by
  have H := Lib.hid h
  obtain ⟨f3, f5, f7, f8, f9, f10, f11, f79, hpl, hk, hc, hb7, hb10, _, _, _, hkq, hts, hwf, hfd⟩ := id h
  obtain ⟨e0, e1, e2, e3, e4, e5, e6, e7, m2, m3, m4⟩ := h.cells (Chg.refl (fun _ => False) w4) (fun _ x => x.elim)
  have HPL := Lib.hid hpl
  have HC := Lib.hid hc
  have HKQ := Lib.hid hkq
  have HFD := Lib.hid hfd
  have HJ := Lib.hid hJ
  clear h hJ hpl hc hkq hfd hwf hb7 hb10

  obtain ⟨xk, xq, xn, xt, ⟨pa, pb, pc, pd⟩⟩ := x
  dsimp only at k1 f8 f79 e0 e1 e2 e3 e4 e5 e6 e7 hts
  subst k1
  rw [fr_lit400 f, f3, f5, f7, f8, f9, f10, f11, f79]
  conv => arg 2; whnf
  by_cases hr : (refQ xt xq != 0) = true
  · have HB := Lib.hid (qbase_bad qb xt (by unfold maxLen; omega) xq xn w4 (refQ xt xq) rfl hr)
    have hr2 : (refQ xt xq == 0) = false := by simpa using hr
    go_wp2_with fail
    refine HB.out.mono ?_
    rintro e w5 ⟨rfl, hb5⟩
    go_wp2_with fail
    exact HJ.out _ _ ⟨_, vv, Ms, lit_fr400 _ rfl, rfl, f3.symm, rfl, rfl, rfl, rfl, ((HPL.out.new HC.out).new (Chg.of_below hb5)).more⟩
  have hr0 : refQ xt xq = 0 := by simpa using hr
  rw [hr0]
  obtain ⟨htb, hq2⟩ := refQ_ok hr0
  by_cases hn0 : xn < 0
  · have HB := Lib.hid (qbase_range qb xt (by unfold maxLen; omega) xq xn w4 hr0 (.inl hn0))
    go_wp2_with fail
    refine HB.out.mono ?_
    rintro e w5 ⟨rfl, hb5⟩
    go_wp2_with fail
    exact HJ.out _ _ ⟨_, vv, Ms, lit_fr400 _ rfl, rfl, f3.symm, rfl, rfl, rfl, rfl, ((HPL.out.new HC.out).new (Chg.of_below hb5)).more⟩
  by_cases hn1 : (1099511627776 : Int) < xn
  · have HB := Lib.hid (qbase_range qb xt (by unfold maxLen; omega) xq xn w4 hr0 (.inr hn1))
    go_wp2_with fail
    refine HB.out.mono ?_
    rintro e w5 ⟨rfl, hb5⟩
    go_wp2_with fail
    exact HJ.out _ _ ⟨_, vv, Ms, lit_fr400 _ rfl, rfl, f3.symm, rfl, rfl, rfl, rfl, ((HPL.out.new HC.out).new (Chg.of_below hb5)).more⟩
  have htb1 : topicB kq.1.1 = true := by rw [HKQ.out]; exact htb
  have hq1 : 0 ≤ kq.1.2 ∧ kq.1.2 ≤ 2 := by rw [HKQ.out]; exact hq2
  rcases HFD.out with ⟨j, m, hj, hmk, rfl, rfl, hml⟩ | ⟨rfl, rfl, hno, hln⟩
  · have HB := HPL.out.base_there HC.out kq htb1 hq1 xn (by omega) (List.mem_of_getElem? hj) hmk
    rw [HKQ.out] at HB
    have HB := Lib.hid HB
    dsimp only at HB
    clear htb htb1 hq2 hq1
    go_wp2_with fail
    refine HB.out.mono ?_
    rintro e w5 ⟨rfl, hb5⟩
    go_wp2_with fail
    exact HJ.out _ _ ⟨_, vv, Ms, lit_fr400 _ rfl, rfl, f3.symm, rfl, rfl, rfl, rfl, ((HPL.out.new HC.out).new (Chg.of_below hb5)).more⟩
  · have HB := HPL.out.base_ (by omega) HC.out kq htb1 hq1 xn (by omega) hno
    rw [HKQ.out] at HB
    have HB := Lib.hid HB
    dsimp only at HB
    clear htb htb1 hq2 hq1
    go_wp2_with fail
    refine HB.out.mono ?_
    rintro e w5 ⟨rfl, hm5, hc5⟩
    obtain ⟨e0, e1, e2, e3, e4, e5, e6, e7, m2, m3, m4⟩ := H.out.cells hc5 (fun q x => x)
    have HM5 := Lib.hid hm5
    clear hm5 hc5
    dsimp only at e0 e1 e2 e3 e4 e5 e6 e7
    obtain ⟨aa, ac, hva⟩ := HPL.out.form
    subst hva
    have hml := HPL.out.lenM
    obtain ⟨i0, hi, hz0, hz1, hz2⟩ := info_parts info_mo
    obtain ⟨bn, rfl⟩ : ∃ b : Nat, xn = (b : Int) := ⟨xn.toNat, by omega⟩
    rw [Int.toNat_natCast] at HM5
    have hmod : w5.ownsRow lo 39 5 (.slice aa Ms.length ac) Ms.length (Ms.flatMap MoM.cells) := HM5.out.mod.row
    have HMOD := Lib.hid hmod
    have HST : Hid (∀ w9 v9 cs, (w5.alloc cs).grownBy w9 (Value.slice aa Ms.length ac).ownBlock → w9.ownsRow lo 39 5 v9 (Ms.length + 1) (Ms.flatMap MoM.cells ++ (moN xt xq bn).cells) → (∀ q, v9.ownBlock = some q → (Value.slice aa Ms.length ac).ownBlock = some q ∨ (w5.alloc cs).heap.size ≤ q) → PlI w w9 qb (k + 1) lo v9 (Ms ++ [moN xt xq bn])) := Lib.hid (fun w9 v9 cs hg ho hv => by
      have hca : Chg (fun _ => False) w5 (w5.alloc cs) := Chg.alloc _ (Chg.refl _ _) _
      exact (HM5.out.more hca (m := moN xt xq bn) rfl rfl ho hg hv).born hno (by rw [HKQ.out]; rfl) rfl rfl rfl)
    have hup := HM5.out.up
    clear hmod
    go_wp2_with (at_builtin; go_must (refine wpList_append_lies _ rfl (.tmp 174) (.tmp 184) 30 rfl lo 39 i0 _ 5 64 Tryz.underlying30 hi hz0 hz1 hz2 rfl (by decide) _ Ms.length (Ms.flatMap MoM.cells) rfl (World.ownsRow.alloc HMOD.out _) ⟨w5.heap.size, 0, none⟩ 1 1 (moN xt xq bn).cells rfl rfl ?d1 (moN_one _ _ _) (by decide) ?d3 ?d4 ?d5 _ rfl ?d6))
    case d1 => exact World.news_of_block (heap_alloc_new _ _)
    case d3 => unfold maxLen; omega
    case d4 => omega
    case d5 => simp; omega
    case d6 =>
      intro g9 c9 w9 hown9 hgrow9 hg9 _
      have h9 := HST.out w9 _ _ hgrow9 hown9 (fun q hq => hg9.imp (fun h => by rw [h]; exact hq) (fun h => by
        obtain rfl : g9 = q := Option.some.inj hq
        rw [h, World.size_alloc]
        exact Nat.le_refl _))
      have H9 := Lib.hid h9
      clear h9 hown9 hgrow9 hg9
      go_wp2_with fail
      exact HJ.out _ _ ⟨_, _, _, lit_fr400 _ rfl, rfl, f3.symm, rfl, rfl, rfl, rfl, H9.out⟩
end Go.Proofs.YtmhojpipmllphaaGreatDoor

namespace Go.Proofs.YtmhojpipmllphaaGreatDoor
open Go.RowKit Go.Deep
set_option linter.unusedVariables false
set_option linter.unusedSimpArgs false
attribute [local go_sem] fr_opt
set_option maxHeartbeats 16000000 in
set_option maxRecDepth 100000 in
theorem sw_2 (f : Nat → Value) {w wr w4 : World} {qb k lo : Nat} {vv : Value} {Ms : List MoM} {B7 B10 : Nat} {x : OpQ} {kq : QK} {i : Int} {mt : ByteArray} {mq : Int} {sl : Value} (h : SwIn f w wr w4 qb k lo vv Ms B7 B10 x kq i mt mq sl) (J : Act → World → Prop) (Q : Exit → Act → World → Prop) (hJ : ∀ a w', SwO f w qb k lo a w' → J a w') (k2 : x.k = 2) :
    Code.wp Tryz.prog swC (Exit.then J Q) (Fr 400 f) w4 := by
  have H := Lib.hid h
  obtain ⟨f3, f5, f7, f8, f9, f10, f11, f79, hpl, hk, hc, hb7, hb10, _, _, _, hkq, hts, hwf, hfd⟩ := id h
  obtain ⟨e0, e1, e2, e3, e4, e5, e6, e7, m2, m3, m4⟩ := h.cells (Chg.refl (fun _ => False) w4) (fun _ x => x.elim)
  have HPL := Lib.hid hpl
  have HC := Lib.hid hc
  have HKQ := Lib.hid hkq
  have HFD := Lib.hid hfd
  have HJ := Lib.hid hJ
  clear h hJ hpl hc hkq hfd hwf hb7 hb10

  obtain ⟨xk, xq, xn, xt, ⟨pa, pb, pc, pd⟩⟩ := x
  dsimp only at k2 f8 f79 e0 e1 e2 e3 e4 e5 e6 e7 hts
  subst k2
  rw [fr_lit400 f, f3, f5, f7, f8, f9, f10, f11, f79]
  conv => arg 2; whnf
  have hat := HPL.out.at_ (by omega) HC.out kq xn
  rw [HKQ.out] at hat
  dsimp only at hat
  have hEND : ∀ W, Below w4.heap.size w4 W → PlI w W qb (k + 1) lo vv Ms := fun W hb => ((HPL.out.new HC.out).new (Chg.of_below hb)).more
  have hCEL : ∀ W, Below w4.heap.size w4 W → Hid (W.cell? ⟨B7, 0, none⟩ = some (.int .i64 2) ∧ W.cell? ⟨B7, 2, none⟩ = some (.int .i64 xn) ∧ W.cell? ⟨B10, 2, none⟩ = some (.int .i64 ((lnQ Ms kq).1 : Int)) ∧ W.cell? ⟨B10, 3, none⟩ = some (.int .i64 ((lnQ Ms kq).2.1 : Int)) ∧ W.cell? ⟨B10, 4, none⟩ = some sl) := fun W hb => Lib.hid (by
    obtain ⟨e0, e1, e2, e3, e4, e5, e6, e7, m2, m3, m4⟩ := H.out.cells (S := fun _ => False) (Chg.of_below hb) (fun _ x => x.elim)
    exact ⟨e0, e2, m2, m3, m4⟩)
  have HEND := Lib.hid hEND
  have HCEL := Lib.hid hCEL
  clear hEND hCEL
  by_cases c1 : 0 ≤ xn ∧ xn < ((lnQ Ms kq).2.1 : Int)
  · have hE : atE (lnQ Ms kq) xn = (zeroP, 14) := if_pos c1
    rw [hE] at hat
    have HB : Hid (Calls Tryz.prog 12 #[.pointer (some ⟨qb, 0, none⟩), .string xt, .int .i64 xq, .int .i64 xn] w4 fun e w' => e = .returned (.tuple #[.agg #[.int .i64 0, .int .i64 0, .int .i64 0, .int .i64 0], .int .i64 14]) ∧ Below w4.heap.size w4 w') := Lib.hid hat
    obtain ⟨c1, c2⟩ := c1
    clear hat hE
    go_wp2_with fail
    refine HB.out.mono ?_
    rintro e w5 ⟨rfl, hb5⟩
    obtain ⟨W6, hW6⟩ : ∃ W, W = w5.alloc (.cells #[.int .i64 0, .int .i64 0, .int .i64 0, .int .i64 0] 32) := ⟨_, rfl⟩
    have hb6 : Below w4.heap.size w4 W6 := hW6 ▸ hb5.alloc hb5.size _
    obtain ⟨P, hP⟩ : ∃ P, P = w5.heap.size := ⟨_, rfl⟩
    have hO6 : W6.heap[P]? = some (.cells #[.int .i64 0, .int .i64 0, .int .i64 0, .int .i64 0] 32 (0, 0)) := by rw [hW6, hP]; exact heap_alloc_new w5 _
    have p0 : W6.cell? ⟨P, 0, none⟩ = some (.int .i64 0) := by simp [World.cell?, hO6]
    have p1 : W6.cell? ⟨P, 1, none⟩ = some (.int .i64 0) := by simp [World.cell?, hO6]
    have p2 : W6.cell? ⟨P, 2, none⟩ = some (.int .i64 0) := by simp [World.cell?, hO6]
    have p3 : W6.cell? ⟨P, 3, none⟩ = some (.int .i64 0) := by simp [World.cell?, hO6]
    obtain ⟨g0, g2, m2, m3, m4⟩ := (HCEL.out W6 hb6).out
    have HB6 := Lib.hid hb6
    have HW6 := Lib.hid hW6
    have HP := Lib.hid hP
    clear e0 e1 e2 e3 e4 e5 e6 e7 hb5 hb6 hW6 hO6 hP
    go_upto_region 50 with fail
    rw [← HW6.out, ← HP.out]
    clear HW6 HP
    go_wp2_with fail
    exact HJ.out _ _ ⟨_, vv, Ms, lit_fr400 _ rfl, rfl, f3.symm, rfl, rfl, rfl, rfl, HEND.out _ HB6.out⟩
  by_cases c2 : xn < 0 ∨ (((lnQ Ms kq).1 + (lnQ Ms kq).2.2.length : Nat) : Int) ≤ xn
  · have hE : atE (lnQ Ms kq) xn = (zeroP, 2) := by unfold atE; rw [if_neg c1, if_pos c2]
    rw [hE] at hat
    have HB : Hid (Calls Tryz.prog 12 #[.pointer (some ⟨qb, 0, none⟩), .string xt, .int .i64 xq, .int .i64 xn] w4 fun e w' => e = .returned (.tuple #[.agg #[.int .i64 0, .int .i64 0, .int .i64 0, .int .i64 0], .int .i64 2]) ∧ Below w4.heap.size w4 w') := Lib.hid hat
    have hw := HPL.out.wfQ kq
    clear hat hE
    by_cases c3 : xn < 0
    · clear c1 c2
      go_wp2_with fail
      refine HB.out.mono ?_
      rintro e w5 ⟨rfl, hb5⟩
      obtain ⟨W6, hW6⟩ : ∃ W, W = w5.alloc (.cells #[.int .i64 0, .int .i64 0, .int .i64 0, .int .i64 0] 32) := ⟨_, rfl⟩
      have hb6 : Below w4.heap.size w4 W6 := hW6 ▸ hb5.alloc hb5.size _
      obtain ⟨P, hP⟩ : ∃ P, P = w5.heap.size := ⟨_, rfl⟩
      have hO6 : W6.heap[P]? = some (.cells #[.int .i64 0, .int .i64 0, .int .i64 0, .int .i64 0] 32 (0, 0)) := by rw [hW6, hP]; exact heap_alloc_new w5 _
      have p0 : W6.cell? ⟨P, 0, none⟩ = some (.int .i64 0) := by simp [World.cell?, hO6]
      have p1 : W6.cell? ⟨P, 1, none⟩ = some (.int .i64 0) := by simp [World.cell?, hO6]
      have p2 : W6.cell? ⟨P, 2, none⟩ = some (.int .i64 0) := by simp [World.cell?, hO6]
      have p3 : W6.cell? ⟨P, 3, none⟩ = some (.int .i64 0) := by simp [World.cell?, hO6]
      obtain ⟨g0, g2, m2, m3, m4⟩ := (HCEL.out W6 hb6).out
      have HB6 := Lib.hid hb6
      have HW6 := Lib.hid hW6
      have HP := Lib.hid hP
      clear e0 e1 e2 e3 e4 e5 e6 e7 hb5 hb6 hW6 hO6 hP
      go_upto_region 50 with fail
      rw [← HW6.out, ← HP.out]
      clear HW6 HP
      go_wp2_with fail
      exact HJ.out _ _ ⟨_, vv, Ms, lit_fr400 _ rfl, rfl, f3.symm, rfl, rfl, rfl, rfl, HEND.out _ HB6.out⟩
    · have c4 : ((lnQ Ms kq).1 : Int) + ((lnQ Ms kq).2.2.length : Int) ≤ xn := by omega
      have c5 : ¬ (xn < ((lnQ Ms kq).2.1 : Int)) := by omega
      clear c1 c2
      go_wp2_with fail
      refine HB.out.mono ?_
      rintro e w5 ⟨rfl, hb5⟩
      obtain ⟨W6, hW6⟩ : ∃ W, W = w5.alloc (.cells #[.int .i64 0, .int .i64 0, .int .i64 0, .int .i64 0] 32) := ⟨_, rfl⟩
      have hb6 : Below w4.heap.size w4 W6 := hW6 ▸ hb5.alloc hb5.size _
      obtain ⟨P, hP⟩ : ∃ P, P = w5.heap.size := ⟨_, rfl⟩
      have hO6 : W6.heap[P]? = some (.cells #[.int .i64 0, .int .i64 0, .int .i64 0, .int .i64 0] 32 (0, 0)) := by rw [hW6, hP]; exact heap_alloc_new w5 _
      have p0 : W6.cell? ⟨P, 0, none⟩ = some (.int .i64 0) := by simp [World.cell?, hO6]
      have p1 : W6.cell? ⟨P, 1, none⟩ = some (.int .i64 0) := by simp [World.cell?, hO6]
      have p2 : W6.cell? ⟨P, 2, none⟩ = some (.int .i64 0) := by simp [World.cell?, hO6]
      have p3 : W6.cell? ⟨P, 3, none⟩ = some (.int .i64 0) := by simp [World.cell?, hO6]
      obtain ⟨g0, g2, m2, m3, m4⟩ := (HCEL.out W6 hb6).out
      have HB6 := Lib.hid hb6
      have HW6 := Lib.hid hW6
      have HP := Lib.hid hP
      clear e0 e1 e2 e3 e4 e5 e6 e7 hb5 hb6 hW6 hO6 hP
      go_upto_region 50 with fail
      rw [← HW6.out, ← HP.out]
      clear HW6 HP
      go_wp2_with fail
      exact HJ.out _ _ ⟨_, vv, Ms, lit_fr400 _ rfl, rfl, f3.symm, rfl, rfl, rfl, rfl, HEND.out _ HB6.out⟩
  · have hE : atE (lnQ Ms kq) xn = ((lnQ Ms kq).2.2.getD (xn.toNat - (lnQ Ms kq).1) zeroP, 0) := by unfold atE; rw [if_neg c1, if_neg c2]
    have c3 : 0 ≤ xn := by omega
    have c4 : xn < ((lnQ Ms kq).1 : Int) + ((lnQ Ms kq).2.2.length : Int) := by omega
    have c5 : ¬ (xn < ((lnQ Ms kq).2.1 : Int)) := by omega
    rw [hE] at hat
    have hw := HPL.out.wfQ kq
    obtain ⟨d, hd⟩ : ∃ d : Nat, xn = ((lnQ Ms kq).1 : Int) + (d : Int) := ⟨(xn - ((lnQ Ms kq).1 : Int)).toNat, by omega⟩
    have hdl : d < (lnQ Ms kq).2.2.length := by omega
    obtain ⟨y, hy⟩ : ∃ y, (lnQ Ms kq).2.2[d]? = some y := ⟨_, List.getElem?_eq_getElem hdl⟩
    have hEL : ∀ W, Below w4.heap.size w4 W → ∃ (q cap : Nat), sl = .slice (some ⟨q, 0, none⟩) (lnQ Ms kq).2.2.length cap ∧ ∀ j, j < 4 → W.cell? ⟨q, d * 4 + j, none⟩ = (plCells y)[j]? := fun W hb => by
      obtain ⟨p, cap, e, h⟩ := H.out.els (HC.out.trans (Chg.of_below hb) (fun _ _ x => x))
      obtain ⟨q, rfl, h2⟩ := h d y hy
      exact ⟨q, cap, e, h2⟩
    have HEL := Lib.hid hEL
    rw [show xn.toNat - (lnQ Ms kq).1 = d by omega, List.getD_eq_getElem?_getD, hy, Option.getD_some] at hat
    obtain ⟨ya, yb, yc, yd⟩ := y
    have HB : Hid (Calls Tryz.prog 12 #[.pointer (some ⟨qb, 0, none⟩), .string xt, .int .i64 xq, .int .i64 xn] w4 fun e w' => e = .returned (.tuple #[.agg #[.int .i64 ya, .int .i64 yb, .int .i64 yc, .int .i64 yd], .int .i64 0]) ∧ Below w4.heap.size w4 w') := Lib.hid hat
    clear hat hE hEL hy c1 c2
    have hsub : xn - ((lnQ Ms kq).1 : Int) = (d : Int) := by omega
    have hbs : (lnQ Ms kq).1 ≤ 1099511627776 := hw.2.2.1
    have hle : (lnQ Ms kq).2.2.length ≤ 1000 := by omega
    clear hw hd
    generalize (lnQ Ms kq).2.2.length = le at *
    generalize (lnQ Ms kq).1 = bs at *
    generalize (lnQ Ms kq).2.1 = ls at *
    go_wp2_with fail
    refine HB.out.mono ?_
    rintro e w5 ⟨rfl, hb5⟩
    obtain ⟨W6, hW6⟩ : ∃ W, W = w5.alloc (.cells #[.int .i64 ya, .int .i64 yb, .int .i64 yc, .int .i64 yd] 32) := ⟨_, rfl⟩
    have hb6 : Below w4.heap.size w4 W6 := hW6 ▸ hb5.alloc hb5.size _
    obtain ⟨P, hP⟩ : ∃ P, P = w5.heap.size := ⟨_, rfl⟩
    have hO6 : W6.heap[P]? = some (.cells #[.int .i64 ya, .int .i64 yb, .int .i64 yc, .int .i64 yd] 32 (0, 0)) := by rw [hW6, hP]; exact heap_alloc_new w5 _
    have p0 : W6.cell? ⟨P, 0, none⟩ = some (.int .i64 ya) := by simp [World.cell?, hO6]
    have p1 : W6.cell? ⟨P, 1, none⟩ = some (.int .i64 yb) := by simp [World.cell?, hO6]
    have p2 : W6.cell? ⟨P, 2, none⟩ = some (.int .i64 yc) := by simp [World.cell?, hO6]
    have p3 : W6.cell? ⟨P, 3, none⟩ = some (.int .i64 yd) := by simp [World.cell?, hO6]
    obtain ⟨g0, g2, m2, m3, m4⟩ := (HCEL.out W6 hb6).out
    obtain ⟨q, cap, rfl, hcs⟩ := HEL.out W6 hb6
    have u0 : W6.cell? ⟨q, d * 4, none⟩ = some (.int .i64 ya) := hcs 0 (by decide)
    have u1 : W6.cell? ⟨q, d * 4 + 1, none⟩ = some (.int .i64 yb) := hcs 1 (by decide)
    have u2 : W6.cell? ⟨q, d * 4 + 2, none⟩ = some (.int .i64 yc) := hcs 2 (by decide)
    have u3 : W6.cell? ⟨q, d * 4 + 3, none⟩ = some (.int .i64 yd) := hcs 3 (by decide)
    clear hcs
    have HB6 := Lib.hid hb6
    have HW6 := Lib.hid hW6
    have HP := Lib.hid hP
    clear e0 e1 e2 e3 e4 e5 e6 e7 hb5 hb6 hW6 hO6 hP
    go_upto_region 50 with fail
    rw [← HW6.out, ← HP.out]
    clear HW6 HP
    go_upto_region 56 with fail
    go_quiet (fail)
    go_wp2_with fail
    exact HJ.out _ _ ⟨_, vv, Ms, lit_fr400 _ rfl, rfl, f3.symm, rfl, rfl, rfl, rfl, HEND.out _ (below_drewN HB6.out _)⟩
end Go.Proofs.YtmhojpipmllphaaGreatDoor

namespace Go.Proofs.YtmhojpipmllphaaGreatDoor
open Go.RowKit Go.Deep
set_option linter.unusedVariables false
set_option linter.unusedSimpArgs false
attribute [local go_sem] fr_opt
set_option maxHeartbeats 16000000 in
set_option maxRecDepth 100000 in
theorem sw_3 (f : Nat → Value) {w wr w4 : World} {qb k lo : Nat} {vv : Value} {Ms : List MoM} {B7 B10 : Nat} {x : OpQ} {kq : QK} {i : Int} {mt : ByteArray} {mq : Int} {sl : Value} (h : SwIn f w wr w4 qb k lo vv Ms B7 B10 x kq i mt mq sl) (J : Act → World → Prop) (Q : Exit → Act → World → Prop) (hJ : ∀ a w', SwO f w qb k lo a w' → J a w') (k3 : x.k = 3) :
    Code.wp Tryz.prog swC (Exit.then J Q) (Fr 400 f) w4 := by
  have H := Lib.hid h
  obtain ⟨f3, f5, f7, f8, f9, f10, f11, f79, hpl, hk, hc, hb7, hb10, _, _, _, hkq, hts, hwf, hfd⟩ := id h
  obtain ⟨e0, e1, e2, e3, e4, e5, e6, e7, m2, m3, m4⟩ := h.cells (Chg.refl (fun _ => False) w4) (fun _ x => x.elim)
  have HPL := Lib.hid hpl
  have HC := Lib.hid hc
  have HKQ := Lib.hid hkq
  have HFD := Lib.hid hfd
  have HJ := Lib.hid hJ
  clear h hJ hpl hc hkq hfd hwf hb7 hb10

  obtain ⟨xk, xq, xn, xt, ⟨pa, pb, pc, pd⟩⟩ := x
  dsimp only at k3 f8 f79 e0 e1 e2 e3 e4 e5 e6 e7 hts
  subst k3
  rw [fr_lit400 f, f3, f5, f7, f8, f9, f10, f11, f79]
  conv => arg 2; whnf
  obtain ⟨p, cap, hsl, _⟩ := H.out.els HC.out
  obtain ⟨es, hes⟩ : ∃ l, l = (lnQ Ms kq).2.2 := ⟨_, rfl⟩
  obtain ⟨le, hle⟩ : ∃ l, l = es.length := ⟨_, rfl⟩
  obtain ⟨bs, hbs⟩ : ∃ l, l = (lnQ Ms kq).1 := ⟨_, rfl⟩
  obtain ⟨ls, hls⟩ : ∃ l, l = (lnQ Ms kq).2.1 := ⟨_, rfl⟩
  obtain ⟨g1, g2, g3, g4⟩ := HPL.out.wfQ kq
  rw [← hes, ← hle] at hsl g2 g4
  rw [← hbs] at g1 g2 g3
  rw [← hls] at g1 g2
  have hCEL : ∀ W, Below w4.heap.size w4 W → Hid (W.cell? ⟨B7, 1, none⟩ = some (.int .i64 xq) ∧ W.cell? ⟨B7, 2, none⟩ = some (.int .i64 xn) ∧ W.cell? ⟨B7, 3, none⟩ = some (.string xt) ∧ W.cell? ⟨B10, 2, none⟩ = some (.int .i64 (bs : Int)) ∧ W.cell? ⟨B10, 4, none⟩ = some (.slice p le cap)) := fun W hb => Lib.hid (by
    obtain ⟨e0, e1, e2, e3, e4, e5, e6, e7, m2, m3, m4⟩ := H.out.cells (S := fun _ => False) (Chg.of_below hb) (fun _ x => x.elim)
    exact ⟨e1, e2, e3, by rw [hbs]; exact m2, by rw [← hsl]; exact m4⟩)
  have hSK : ∀ W t, Below w4.heap.size w4 W → ls ≤ bs + t → t ≤ le → (∀ j y, ls ≤ bs + j → j < t → es[j]? = some y → funSeek xn y = false) → (∀ y, es[t]? = some y → funSeek xn y = true) →
      Hid (Calls Tryz.prog 13 #[.pointer (some ⟨qb, 0, none⟩), .string xt, .int .i64 xq, .int .i64 xn] W fun e w' => e = .returned (.int .i64 ((bs + t : Nat) : Int)) ∧ Below W.heap.size W w') := fun W t hb a1 a2 a3 a4 => Lib.hid (by
    have hs := HPL.out.seek (by omega) (HC.out.trans (Chg.of_below hb) (fun _ _ x => x)) kq xn
    rw [← hes, ← hbs, ← hls, HKQ.out, seekI_eq (i := ls - bs) (j := t) (by omega) (by omega) (fun q y q1 q2 hy => a3 q y (by omega) q2 hy) a4] at hs
    exact hs)
  have hEL : ∀ W, Below w4.heap.size w4 W → ∀ t y, es[t]? = some y → ∃ q, p = some ⟨q, 0, none⟩ ∧ W.cell? ⟨q, t * 4 + 3, none⟩ = some (.int .i64 y.d) := fun W hb t y hy => by
    obtain ⟨p', cap', e, h⟩ := H.out.els (HC.out.trans (Chg.of_below hb) (fun _ _ x => x))
    rw [hsl] at e
    injection e with e1 e2 e3
    rw [← hes] at h
    obtain ⟨q, hq, h2⟩ := h t y hy
    exact ⟨q, e1.trans hq, h2 3 (by decide)⟩
  have hEND : ∀ W, Below w4.heap.size w4 W → PlI w W qb (k + 1) lo vv Ms := fun W hb => ((HPL.out.new HC.out).new (Chg.of_below hb)).more
  have HEND := Lib.hid hEND
  have HCEL := Lib.hid hCEL
  have HSK := Lib.hid hSK
  have HEL := Lib.hid hEL
  have g4 : le ≤ 1000 := by omega
  rw [← hes, ← hle, ← hbs]
  rw [← hls] at m3
  rw [← hbs] at m2
  rw [hsl] at m4
  have HLE := Lib.hid hle
  clear hEND hCEL hSK hEL hsl hes hbs hls hle H HFD HPL HC f11
  go_wp2_with fail
  go_loopw [18] (fun a wr => ∃ t : Nat, ls ≤ bs + t ∧ t ≤ le ∧ a = .int .i64 ((bs + t : Nat) : Int) ∧ Hid (∀ j y, ls ≤ bs + j → j < t → es[j]? = some y → funSeek xn y = false) ∧ Hid (Below w4.heap.size w4 wr)) (fun a _ => bs + le - (intOf a).toNat)
  case atStart => exact ⟨ls - bs, by omega, by omega, by congr 1; omega, Lib.hid (fun j x q1 q2 _ => absurd q1 (by omega)), Lib.hid (Below.refl _ _)⟩
  case round =>
    obtain ⟨t, h1, h2, rfl, HJ2, HB⟩ := hrel
    obtain ⟨c1, c2, c3, m2, m4⟩ := (HCEL.out wr HB.out).out
    obtain ⟨bt, hbt⟩ : ∃ x, x = bs + t := ⟨_, rfl⟩
    rw [← hbt]
    have hsub : (bt : Int) - (bs : Int) = (t : Int) := by omega
    by_cases hlt : t < le
    · have hbl : bt < bs + le := by omega
      obtain ⟨y, hy⟩ : ∃ y, es[t]? = some y := ⟨_, List.getElem?_eq_getElem (by rw [← HLE.out]; exact hlt)⟩
      obtain ⟨q, rfl, u3⟩ := HEL.out wr HB.out t y hy
      obtain ⟨ya, yb, yc, yd⟩ := y
      dsimp only at u3
      by_cases hz : yd < xn
      · have HY := Lib.hid hy
        clear hy
        go_upto_region 60 with fail
        go_quiet (fail)
        go_wp2_with fail
        refine ⟨⟨t + 1, by omega, by omega, by first | (congr 1; done) | (congr 1; omega) | go_num, Lib.hid (fun j y q1 q2 hy => ?_), Lib.hid (below_drewN HB.out _)⟩, ?_⟩
        · by_cases hjk : j = t
          · subst hjk
            rw [HY.out] at hy
            cases hy
            show decide (xn ≤ yd) = false
            exact decide_eq_false (by omega)
          · exact HJ2.out j y q1 (by omega) hy
        · simp [intOf]
          omega
      · have HX : ∀ y', es[t]? = some y' → funSeek xn y' = true := fun y' hy' => by
          rw [hy] at hy'
          cases hy'
          show decide (xn ≤ yd) = true
          exact decide_eq_true (by omega)
        clear hy
        go_upto_region 60 with fail
        go_quiet (fail)
        have hbd : Below w4.heap.size w4 (wr.drewN nq) := below_drewN HB.out _
        obtain ⟨c1, c2, c3, m2, m4⟩ := (HCEL.out _ hbd).out
        have HBD := Lib.hid hbd
        have HK := HSK.out _ t hbd h1 h2 HJ2.out HX
        rw [← hbt] at HK
        clear hbt hbd
        go_wp2_with fail
        refine HK.out.mono ?_
        rintro e w5 ⟨rfl, hb5⟩
        have hbf := HBD.out.trans (hb5.mono HBD.out.size)
        have HBF := Lib.hid hbf
        clear hbf hb5
        go_wp2_with fail
        exact HJ.out _ _ ⟨_, vv, Ms, lit_fr400 _ rfl, rfl, f3.symm, rfl, rfl, rfl, rfl, HEND.out _ HBF.out⟩
    · have hbl : ¬ (bt < bs + le) := by omega
      have HX : ∀ y', es[t]? = some y' → funSeek xn y' = true := fun y' hy' => by
        have := (List.getElem?_eq_some_iff.1 hy').1
        rw [← HLE.out] at this
        omega
      go_upto_region 60 with fail
      go_quiet (fail)
      have hbd : Below w4.heap.size w4 (wr.drewN nq) := below_drewN HB.out _
      obtain ⟨c1, c2, c3, m2, m4⟩ := (HCEL.out _ hbd).out
      have HBD := Lib.hid hbd
      have HK := HSK.out _ t hbd h1 h2 HJ2.out HX
      rw [← hbt] at HK
      clear hbt hbd
      go_wp2_with fail
      refine HK.out.mono ?_
      rintro e w5 ⟨rfl, hb5⟩
      have hbf := HBD.out.trans (hb5.mono HBD.out.size)
      have HBF := Lib.hid hbf
      clear hbf hb5
      go_wp2_with fail
      exact HJ.out _ _ ⟨_, vv, Ms, lit_fr400 _ rfl, rfl, f3.symm, rfl, rfl, rfl, rfl, HEND.out _ HBF.out⟩
end Go.Proofs.YtmhojpipmllphaaGreatDoor

namespace Go.Proofs.YtmhojpipmllphaaGreatDoor
open Go.RowKit Go.Deep
set_option linter.unusedVariables false
set_option linter.unusedSimpArgs false
attribute [local go_sem] fr_opt
set_option maxHeartbeats 16000000 in
set_option maxRecDepth 100000 in
theorem sw_4 (f : Nat → Value) {w wr w4 : World} {qb k lo : Nat} {vv : Value} {Ms : List MoM} {B7 B10 : Nat} {x : OpQ} {kq : QK} {i : Int} {mt : ByteArray} {mq : Int} {sl : Value} (h : SwIn f w wr w4 qb k lo vv Ms B7 B10 x kq i mt mq sl) (J : Act → World → Prop) (Q : Exit → Act → World → Prop) (hJ : ∀ a w', SwO f w qb k lo a w' → J a w') (k4 : x.k = 4) :
    Code.wp Tryz.prog swC (Exit.then J Q) (Fr 400 f) w4 := by
  have H := Lib.hid h
  obtain ⟨f3, f5, f7, f8, f9, f10, f11, f79, hpl, hk, hc, hb7, hb10, _, _, _, hkq, hts, hwf, hfd⟩ := id h
  obtain ⟨e0, e1, e2, e3, e4, e5, e6, e7, m2, m3, m4⟩ := h.cells (Chg.refl (fun _ => False) w4) (fun _ x => x.elim)
  have HPL := Lib.hid hpl
  have HC := Lib.hid hc
  have HKQ := Lib.hid hkq
  have HFD := Lib.hid hfd
  have HJ := Lib.hid hJ
  clear h hJ hpl hc hkq hfd hwf hb7 hb10

  obtain ⟨xk, xq, xn, xt, ⟨pa, pb, pc, pd⟩⟩ := x
  dsimp only at k4 f8 f79 e0 e1 e2 e3 e4 e5 e6 e7 hts
  subst k4
  obtain ⟨aa, ac, hva⟩ := HPL.out.form
  subst hva
  have HB := Lib.hid (HPL.out.trim_ (by omega) HC.out xn)
  have hlm := HPL.out.lenM
  obtain ⟨al, hal⟩ : ∃ l, l = Ms.length := ⟨_, rfl⟩
  rw [← hal] at f5 hlm
  have HAL := Lib.hid hal
  clear hal f9 f11
  rw [fr_lit400 f, f3, f5, f7, f8, f10, f79]
  conv => arg 2; whnf
  go_wp2_with fail
  refine HB.out.mono ?_
  rintro e w5 ⟨rfl, hm5, hc5⟩
  obtain ⟨e0, e1, e2, e3, e4, e5, e6, e7, m2, m3, m4⟩ := H.out.cells hc5 (fun q x => x)
  have HM5 := Lib.hid hm5
  have HC5 := Lib.hid hc5
  clear hm5 hc5
  dsimp only at e0 e1 e2 e3 e4 e5 e6 e7
  have hl5 : Ms.length = al := HAL.out.symm
  have hqb : ∀ q, (Value.slice aa al ac).ownBlock = some q → q < wr.heap.size := fun q hq => (HPL.out.mod.lt (q := q) (.inl (by rw [← hl5] at hq; exact hq))).2
  have HQB := Lib.hid hqb
  have HB7 := Lib.hid H.out.b7
  rw [hl5] at HM5
  clear hqb hl5 H HPL HFD HC HC5 HB m2 m3 m4 e0 e1 e3 e4 e5 e6 e7
  go_wp2_with fail
  go_loopw [282] (fun a W => ∃ j : Nat, j ≤ al ∧ a = .int .i64 (j : Int) ∧ Hid (MtI w W qb k lo (.slice aa al ac) Ms xn j) ∧ W.cell? ⟨B7, 2, none⟩ = some (.int .i64 xn)) (fun a _ => al - (intOf a).toNat)
  case atStart => exact ⟨0, by omega, rfl, HM5, e2⟩
  case round =>
    obtain ⟨j, hj, rfl, HMT, e2⟩ := hrel
    by_cases hlt : j < al
    · obtain ⟨b, rfl, hlen, hcall⟩ := HMT.out.call (W := wr.drew) (by omega) ((Chg.refl (fun _ => False) _).drewN 1) (by rw [← HAL.out]; exact hlt)
      have HCL := Lib.hid hcall
      clear hcall hlen
      have h2 : wr.drew.cell? ⟨B7, 2, none⟩ = some (.int .i64 xn) := e2
      have H2 := Lib.hid h2
      clear h2
      go_upto_region 70 with fail
      go_still_tail 5, (by kernel_rfl)
      repeat still_step
      change wpList _ _ _ _ _ wr.drew
      have h2 := H2.out
      generalize wr.drew = W2 at HCL h2 ⊢
      clear e2 H2
      go_wp2_with fail
      refine HCL.out.mono ?_
      rintro e w6 ⟨rfl, hm6, hc6⟩
      have hne : B7 ≠ b := fun hx => by
        have h3 := HQB.out b rfl
        have h4 := HB7.out
        omega
      have h6 := hc6.cell h2 (fun hx => hne hx)
      have HM6 := Lib.hid hm6
      have H6 := Lib.hid h6
      clear hm6 hc6 hne h2 h6
      go_wp2_with fail
      exact ⟨⟨j + 1, by omega, rfl, HM6, H6.out⟩, by simp [intOf]; omega⟩
    · have hje : j = al := by omega
      subst hje
      have hdone : PlI w wr qb (k + 1) lo (.slice aa j ac) (Ms.map (trM xn)) := by
        have h := HMT.out
        rw [show MtI w wr qb k lo (.slice aa j ac) Ms xn j = MtI w wr qb k lo (.slice aa j ac) Ms xn Ms.length by rw [← HAL.out]] at h
        exact h.done
      have HD := Lib.hid hdone
      clear hdone
      go_wp2_with fail
      exact HJ.out _ _ ⟨_, _, _, lit_fr400 _ rfl, rfl, f3.symm, rfl, rfl, rfl, rfl, HD.out⟩
end Go.Proofs.YtmhojpipmllphaaGreatDoor

namespace Go.Proofs.YtmhojpipmllphaaGreatDoor
open Go.RowKit Go.Deep
set_option linter.unusedVariables false
set_option linter.unusedSimpArgs false
attribute [local go_sem] fr_opt
set_option maxHeartbeats 16000000 in
set_option maxRecDepth 100000 in
theorem sw_6 (f : Nat → Value) {w wr w4 : World} {qb k lo : Nat} {vv : Value} {Ms : List MoM} {B7 B10 : Nat} {x : OpQ} {kq : QK} {i : Int} {mt : ByteArray} {mq : Int} {sl : Value} (h : SwIn f w wr w4 qb k lo vv Ms B7 B10 x kq i mt mq sl) (J : Act → World → Prop) (Q : Exit → Act → World → Prop) (hJ : ∀ a w', SwO f w qb k lo a w' → J a w') (k0 : (x.k == 0) = false) (k1 : (x.k == 1) = false) (k2 : (x.k == 2) = false) (k3 : (x.k == 3) = false) (k4 : (x.k == 4) = false) :
    Code.wp Tryz.prog swC (Exit.then J Q) (Fr 400 f) w4 := by
  have H := Lib.hid h
  obtain ⟨f3, f5, f7, f8, f9, f10, f11, f79, hpl, hk, hc, hb7, hb10, _, _, _, hkq, hts, hwf, hfd⟩ := id h
  obtain ⟨e0, e1, e2, e3, e4, e5, e6, e7, m2, m3, m4⟩ := h.cells (Chg.refl (fun _ => False) w4) (fun _ x => x.elim)
  have HPL := Lib.hid hpl
  have HC := Lib.hid hc
  have HKQ := Lib.hid hkq
  have HFD := Lib.hid hfd
  have HJ := Lib.hid hJ
  clear h hJ hpl hc hkq hfd hwf hb7 hb10
  obtain ⟨xk, xq, xn, xt, ⟨pa, pb, pc, pd⟩⟩ := x
  dsimp only at k0 k1 k2 k3 k4 f8 f79 e0 e1 e2 e3 e4 e5 e6 e7
  rw [fr_lit400 f, f3, f5, f7, f8, f9, f10, f11, f79]
  conv => arg 2; whnf
  go_wp2_with fail
  exact HJ.out _ _ ⟨_, vv, Ms, lit_fr400 _ rfl, rfl, f3.symm, rfl, rfl, rfl, rfl, (HPL.out.new HC.out).more⟩
end Go.Proofs.YtmhojpipmllphaaGreatDoor

namespace Go.Proofs.YtmhojpipmllphaaGreatDoor
open Go.RowKit Go.Deep
theorem sw_any (f : Nat → Value) {w wr w4 : World} {qb k lo : Nat} {vv : Value} {Ms : List MoM} {B7 B10 : Nat} {x : OpQ} {kq : QK} {i : Int} {mt : ByteArray} {mq : Int} {sl : Value} (h : SwIn f w wr w4 qb k lo vv Ms B7 B10 x kq i mt mq sl) (J : Act → World → Prop) (Q : Exit → Act → World → Prop) (hJ : ∀ a w', SwO f w qb k lo a w' → J a w')
    (hA : x.k = 0 → refQ x.t x.q = 0 → x.p.fit = true → Code.wp Tryz.prog swC (Exit.then J Q) (Fr 400 f) w4) :
    Code.wp Tryz.prog swC (Exit.then J Q) (Fr 400 f) w4 := by
  have hk := h.hk
  by_cases k0 : x.k = 0
  · by_cases hr : (refQ x.t x.q != 0) = true
    · exact sw_0bad f h J Q hJ k0 (.inl hr)
    · cases hp : x.p.fit with
      | false => exact sw_0bad f h J Q hJ k0 (.inr hp)
      | true => exact hA k0 (by simpa using hr) hp
  by_cases k1 : x.k = 1
  · exact sw_1 f h J Q hJ (by omega) k1
  by_cases k2 : x.k = 2
  · exact sw_2 f h J Q hJ k2
  by_cases k3 : x.k = 3
  · exact sw_3 f h J Q hJ k3
  by_cases k4 : x.k = 4
  · exact sw_4 f h J Q hJ k4
  exact sw_6 f h J Q hJ (by simpa using k0) (by simpa using k1) (by simpa using k2) (by simpa using k3) (by simpa using k4)
end Go.Proofs.YtmhojpipmllphaaGreatDoor

namespace Go.Proofs.YtmhojpipmllphaaGreatDoor
open Go.RowKit Go.Deep
set_option linter.unusedVariables false
set_option linter.unusedSimpArgs false
theorem PlI.find_ {w0 w W : World} {qb n lo : Nat} {v : Value} {Ms : List MoM} (h : PlI w0 w qb n lo v Ms) (hn : n ≤ 1000) (hc : Chg (fun _ => False) w W) (k : QK) :
    ∃ i : Int, Calls Tryz.prog 8 #[v, .string k.1.1, .int .i64 k.1.2] W (fun e w' => e = .returned (.int .i64 i) ∧ ∃ y, w' = W.drewN y) ∧
      ((∃ (j : Nat) (m : MoM), Ms[j]? = some m ∧ m.key = k.1 ∧ i = (j : Int) ∧ m.line = lnQ Ms k) ∨ (i = -1 ∧ (∀ m ∈ Ms, m.key ≠ k.1) ∧ lnQ Ms k = (0, 0, []))) := by
  obtain ⟨p, cap, hv, hat⟩ := (h.mod.new hc).find
  subst hv
  have hlm := h.lenM
  obtain ⟨mv, g, st, L, h1, h2, _⟩ := h.ex
  refine ⟨findJ (Ms.map MoM.key) k.1.1 k.1.2, ?_, ?_⟩
  · have := lfind_any p cap (Ms.map MoM.key) k.1.1 k.1.2 W (by rw [List.length_map]; omega) (fun i x hx => by
      rw [List.getElem?_map] at hx
      obtain ⟨m, hm, rfl⟩ := Option.map_eq_some_iff.1 hx
      obtain ⟨b, hb, _, _, _, hcs⟩ := hat i m hm
      exact ⟨b, hb, hcs 0 (by decide), hcs 1 (by decide)⟩)
    rw [List.length_map] at this
    exact this
  · rcases match_look h2 k with ⟨i, m, hi, hk, hf, hg, hs⟩ | ⟨hf, hg, hd, hno⟩
    · exact .inl ⟨i, m, hi, hk, hf, by rw [lnQ_eq h2]; unfold MoM.line; rw [hs.base, hs.least, hs.es]⟩
    · exact .inr ⟨hf, hno, by rw [lnQ_eq h2, hd]; rfl⟩
theorem flat4_get {α : Type} (F : α → List Value) (h : ∀ a, (F a).length = 4) : ∀ (l : List α) (i j : Nat) (x : α), l[i]? = some x → j < 4 → (l.flatMap F)[i * 4 + j]? = (F x)[j]?
  | [], i, j, x, h0, _ => by cases h0
  | y :: l, 0, j, x, h0, hj => by
    simp only [List.getElem?_cons_zero, Option.some.injEq] at h0
    subst h0
    rw [List.flatMap_cons, List.getElem?_append_left (by rw [h]; omega)]
    congr 1
    omega
  | y :: l, i + 1, j, x, h0, hj => by
    rw [List.getElem?_cons_succ] at h0
    rw [List.flatMap_cons, List.getElem?_append_right (by rw [h]; omega), h, ← flat4_get F h l i j x h0 hj]
    congr 1
    omega
theorem own4_cell {α : Type} {F : α → List Value} (hF : ∀ a, (F a).length = 4) {w W : World} {base : Nat} {e : TypeId} {v : Value} {l : List α} (h : w.ownsRow base e 4 v l.length (l.flatMap F)) (hc : Chg (fun _ => False) w W) {i : Nat} {x : α} (hi : l[i]? = some x) :
    ∃ g cap, v = .slice (some ⟨g, 0, none⟩) l.length cap ∧ g < w.heap.size ∧ ∀ j, j < 4 → W.cell? ⟨g, i * 4 + j, none⟩ = (F x)[j]? := by
  have hlt := (List.getElem?_eq_some_iff.1 hi).1
  rcases h.2 with ⟨_, h0⟩ | ⟨g, cap, cur, e1, hbase, hb, h1, h2, h3, h4⟩
  · omega
  · refine ⟨g, cap, e1, (Array.getElem?_eq_some_iff.1 hb).1, fun j hj => ?_⟩
    have h5 := flat4_get F hF l i j x hi hj
    obtain ⟨u, hu⟩ : ∃ u, (F x)[j]? = some u := ⟨_, List.getElem?_eq_getElem (by rw [hF]; exact hj)⟩
    rw [hu] at h5 ⊢
    rw [← h4, List.getElem?_take] at h5
    split at h5
    · refine hc.cell ?_ (fun q => q)
      simp only [World.cell?, hb]
      simpa using h5
    · cases h5
end Go.Proofs.YtmhojpipmllphaaGreatDoor

