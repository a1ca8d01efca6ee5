/-
  Part 24: what the statement needs of these texts: QOps.
-/
import Derived.BigQuiet
import Derived.Deep.Grids
import Derived.Deep.OwnRows
import Derived.Deep.QuietTactic
import Derived.Deep.RegionHeld3
import Derived.Lib.AppendStr
import Derived.Lib.Builder
import Derived.Lib.Hide
import Derived.Lib.Slices
import Derived.Lib.SmallJoins
import Derived.Lib.Strings
import Derived.Lib.UnsafeStr
import Derived.OpenShut
import Derived.ProofKit
import Derived.Shelf.GgClosure.StringsIndexFuncTop
import Derived.Shelf.LaysM
import Derived.Shelf.SlSortCmp.NoneTotal
import Derived.Shelf.Slices.In.SortNone
import Derived.Shelf.Slices.SearchI
import Derived.Shelf.Small.Wraps
import Derived.Shelf.Sort.Plain
import Derived.Shelf.Strconv.Atoi
import Derived.Shelf.Strconv.Itoa3
import Derived.Shelf.Strings.Builder1
import Derived.Shelf.Strings.Prefix
import Derived.Shelf.Strings.Repeat
import Derived.Test.YtmhojpipmllphaaGreatDoorProg
import Derived.Test.YtmhojpipmllphaaGreatDoorRows
import Derived.WalkKit
import Derived.WalkLawsBesides
import Derived.WalkSpells
import Derived.Test.YtmhojpipmllphaaGreatDoorQpl2
import Derived.Test.YtmhojpipmllphaaGreatDoorQpl3
import Derived.Test.YtmhojpipmllphaaGreatDoorQpl4
import Derived.Test.YtmhojpipmllphaaGreatDoorQpl11
import Derived.Test.YtmhojpipmllphaaGreatDoorQpl12
import Derived.Test.YtmhojpipmllphaaGreatDoorQpl21
import Derived.Test.YtmhojpipmllphaaGreatDoorQpl22
namespace Go.Proofs.YtmhojpipmllphaaGreatDoor
open Go.RowKit Go.Deep
open Go.ChangeShapes Go.WideShapes
set_option linter.unusedVariables false
set_option linter.unusedSimpArgs false

/-- A call of the queues. -/
structure OpQ where
  k : Int
  q : Int
  n : Int
  t : ByteArray
  p : PlM
instance : Inhabited OpQ := ⟨⟨0, 0, 0, ⟨#[]⟩, ⟨0, 0, 0, 0⟩⟩⟩
def OpQ.cells (x : OpQ) : List Value := [.int .i64 x.k, .int .i64 x.q, .int .i64 x.n, .string x.t, .int .i64 x.p.a, .int .i64 x.p.b, .int .i64 x.p.c, .int .i64 x.p.d]
def OpQ.wf (x : OpQ) : Prop := (Lit.int .i64 x.k).wf = true ∧ (Lit.int .i64 x.q).wf = true ∧ (Lit.int .i64 x.n).wf = true
def OpQAt (W : World) (b o : Nat) (x : OpQ) : Prop := ∀ j, j < 8 → W.cell? ⟨b, o + j, none⟩ = x.cells[j]?
def OpsQ (W : World) (v : Value) (os : List OpQ) : Prop := ∃ a cap, v = .slice a os.length cap ∧ (os = [] ∨ ∃ b o, a = some ⟨b, o, none⟩ ∧ ∀ i x, os[i]? = some x → OpQAt W b (o + i * 8) x)
section
variable {H : Type} {enc : TypeId × Value → H} {W : World}
set_option maxRecDepth 100000 in
theorem opq_open {n : Nat} {b o : Nat} {cs : List Value} {y : DataW H × List MemPlace} (hcs : W.cells? 0 ⟨b, o, none⟩ 8 = some cs) (h : DataW.trod enc Tryz.prog W 0 (fun _ => true) true n 34 cs = some y) :
    ∃ x : OpQ, OpQAt W b o x ∧ x.wf := by
  obtain ⟨_, hlen, hat⟩ := World.cells?_some hcs
  obtain ⟨xs, m, _, _, _, hxl, hf⟩ := DataW.trod_struct Tryz.underlying34 h
  match cs, hlen with
  | [c0, c1, c2, c3, c4, c5, c6, c7], _ =>
    have hx : xs.length = 5 := hxl
    match xs, hx with
    | [y0, y1, y2, y3, y4], _ =>
      have f0 : DataW.trod enc Tryz.prog W 0 (fun _ => true) true m 3 [c0] = some y0 := hf 0 _ rfl
      have f1 : DataW.trod enc Tryz.prog W 0 (fun _ => true) true m 3 [c1] = some y1 := hf 1 _ rfl
      have f2 : DataW.trod enc Tryz.prog W 0 (fun _ => true) true m 3 [c2] = some y2 := hf 2 _ rfl
      have f3 : DataW.trod enc Tryz.prog W 0 (fun _ => true) true m 9 [c3] = some y3 := hf 3 _ rfl
      have f4 : DataW.trod enc Tryz.prog W 0 (fun _ => true) true m 32 [c4, c5, c6, c7] = some y4 := hf 4 _ rfl
      obtain ⟨ys, m2, _, _, _, hyl, hg⟩ := DataW.trod_struct Tryz.underlying32 f4
      have hy : ys.length = 4 := hyl
      match ys, hy with
      | [z0, z1, z2, z3], _ =>
        have g0 : DataW.trod enc Tryz.prog W 0 (fun _ => true) true m2 3 [c4] = some z0 := hg 0 _ rfl
        have g1 : DataW.trod enc Tryz.prog W 0 (fun _ => true) true m2 3 [c5] = some z1 := hg 1 _ rfl
        have g2 : DataW.trod enc Tryz.prog W 0 (fun _ => true) true m2 3 [c6] = some z2 := hg 2 _ rfl
        have g3 : DataW.trod enc Tryz.prog W 0 (fun _ => true) true m2 3 [c7] = some z3 := hg 3 _ rfl
        obtain ⟨k, e0, _, w0⟩ := DataW.trod_int Tryz.underlying3 f0
        obtain ⟨q, e1, _, w1⟩ := DataW.trod_int Tryz.underlying3 f1
        obtain ⟨nn, e2, _, w2⟩ := DataW.trod_int Tryz.underlying3 f2
        obtain ⟨t, e3, _, _⟩ := DataW.trod_string Tryz.underlying9 f3
        obtain ⟨pa, e4, _, _⟩ := DataW.trod_int Tryz.underlying3 g0
        obtain ⟨pb, e5, _, _⟩ := DataW.trod_int Tryz.underlying3 g1
        obtain ⟨pc, e6, _, _⟩ := DataW.trod_int Tryz.underlying3 g2
        obtain ⟨pd, e7, _, _⟩ := DataW.trod_int Tryz.underlying3 g3
        obtain rfl : c0 = _ := List.singleton_inj.1 e0
        obtain rfl : c1 = _ := List.singleton_inj.1 e1
        obtain rfl : c2 = _ := List.singleton_inj.1 e2
        obtain rfl : c3 = _ := List.singleton_inj.1 e3
        obtain rfl : c4 = _ := List.singleton_inj.1 e4
        obtain rfl : c5 = _ := List.singleton_inj.1 e5
        obtain rfl : c6 = _ := List.singleton_inj.1 e6
        obtain rfl : c7 = _ := List.singleton_inj.1 e7
        refine ⟨⟨k, q, nn, t, ⟨pa, pb, pc, pd⟩⟩, fun j hj => ?_, w0, w1, w2⟩
        have := hat j hj
        rw [add_none] at this
        exact this
set_option maxRecDepth 100000 in
theorem open_opsq {n : Nat} {la : Option Addr} {len cap : Nat} {y : DataW H × List MemPlace} (h : DataW.trod enc Tryz.prog W 0 (fun _ => true) true n 22 [.slice la len cap] = some y) :
    ∃ os, OpsQ W (.slice la len cap) os ∧ os.length ≤ maxLen ∧ ∀ x ∈ os, x.wf := by
  rcases open_slice Tryz.underlying22 h with ⟨hcs, _⟩ | ⟨a, l, c, m, q, D, Pl, hcs, _, hl, hm, hmm, _, hi⟩
  · cases hcs
    exact ⟨[], ⟨none, 0, rfl, .inl rfl⟩, Nat.zero_le _, fun x hx => by cases hx⟩
  · cases hcs
    have hC : Tryz.prog.cellsOf 34 = 8 := by kernel_rfl
    rcases Nat.eq_zero_or_pos len with h0 | h0
    · subst h0
      exact ⟨[], ⟨some a, cap, rfl, .inl rfl⟩, Nat.zero_le _, fun x hx => by cases hx⟩
    · have hml : len ≤ m := by rw [hmm]; simpa using hl
      obtain ⟨b, off, spot⟩ := a
      have hspot : spot = none := by
        obtain ⟨cs', h1, _⟩ := hi 0 (by omega)
        rw [hC] at h1
        obtain ⟨_, hlen, hat⟩ := World.cells?_some h1
        have h2 := hat 0 (by decide)
        rw [List.getElem?_eq_getElem (by omega)] at h2
        simpa [Addr.add] using World.cell?_spot h2
      subst hspot
      obtain ⟨X, hX⟩ := choose_lt (n := len) (p := fun i x => OpQAt W b (off + i * 8) x ∧ x.wf) (fun i hil => by
        obtain ⟨cs', h1, h2⟩ := hi i (by omega)
        rw [hC, add_none] at h1
        exact opq_open h1 h2)
      refine ⟨(List.range len).map X, ⟨_, cap, by simp, .inr ⟨b, off, rfl, fun i x hx => ?_⟩⟩, by simpa using Nat.le_trans hl hm, fun x hx => ?_⟩
      · rw [List.getElem?_map] at hx
        obtain ⟨j, hj, rfl⟩ := Option.map_eq_some_iff.1 hx
        have hjl := List.getElem?_eq_some_iff.1 hj
        obtain ⟨h1, h2⟩ := hjl
        rw [List.getElem_range] at h2
        subst h2
        exact (hX _ (by simpa using h1)).1
      · obtain ⟨i, hil, rfl⟩ := List.mem_map.1 hx
        exact (hX i (List.mem_range.1 hil)).2
end
end Go.Proofs.YtmhojpipmllphaaGreatDoor

