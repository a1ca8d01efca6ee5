/-
  Part 28: what the statement needs of these texts: UOpn.
-/
import Derived.BigQuiet
import Derived.ChangeSame
import Derived.Deep.AppendLies
import Derived.Deep.AppendSrc
import Derived.Deep.DeepCutAuto
import Derived.Deep.DeepMust
import Derived.Deep.Grids
import Derived.Deep.OwnRows
import Derived.Deep.QuietTactic
import Derived.Deep.RegionHeld3
import Derived.Deep.RegionLaw
import Derived.IntWalk
import Derived.Laws.BitsAllLaws
import Derived.Laws.CopyOwn
import Derived.Laws.OwnMore
import Derived.Laws.PanicsMore
import Derived.Laws.Rows
import Derived.Laws.StructEq
import Derived.Lib.AppendZerosOnto
import Derived.Lib.BufferRead
import Derived.Lib.BufferWrite
import Derived.Lib.Hide
import Derived.Lib.SmallJoins
import Derived.Maps.AppendAt
import Derived.Maps.OwnSet
import Derived.Maps.RangeWalk
import Derived.OpenShut
import Derived.Orders
import Derived.ProofKit
import Derived.Shelf.Slices.In.SortNone
import Derived.Shelf.Sort.Plain
import Derived.Shelf.Strings.Prefix
import Derived.SliceStrings
import Derived.Sort.OwnSorted
import Derived.StillTailTactics
import Derived.StringKeys
import Derived.Test.YtcdoicndpecfiaaProg
import Derived.Test.YtcdoicndpecfiaaRows
import Derived.WalkKit
import Derived.WalkLawsBesides
import Derived.WalkSpells
import Derived.Test.YtcdoicndpecfiaaUt1
import Derived.Test.YtcdoicndpecfiaaUt2
import Derived.Test.YtcdoicndpecfiaaUt3
import Derived.Test.YtcdoicndpecfiaaUt4
import Derived.Test.YtcdoicndpecfiaaUt5
import Derived.Test.YtcdoicndpecfiaaUt8
import Derived.Test.YtcdoicndpecfiaaUt9
import Derived.Test.YtcdoicndpecfiaaUt10
import Derived.Test.YtcdoicndpecfiaaUt12
import Derived.Test.YtcdoicndpecfiaaUt13
import Derived.Test.YtcdoicndpecfiaaUt14
import Derived.Test.YtcdoicndpecfiaaUt15
import Derived.Test.YtcdoicndpecfiaaUt16
import Derived.Test.YtcdoicndpecfiaaUt17
import Derived.Test.YtcdoicndpecfiaaUt18
import Derived.Test.YtcdoicndpecfiaaUt19
import Derived.Test.YtcdoicndpecfiaaUt20
import Derived.Test.YtcdoicndpecfiaaUt21
import Derived.Test.YtcdoicndpecfiaaUt22
import Derived.Test.YtcdoicndpecfiaaUt23
import Derived.Test.YtcdoicndpecfiaaUt24
import Derived.Test.YtcdoicndpecfiaaUt25
namespace Go.Proofs.Ytcdoicndpecfiaa
open Go.Joins Go.RowKit Go.Deep
open Go.ChangeShapes Go.WideShapes
set_option linter.unusedVariables false
set_option linter.unusedSimpArgs false

def OpT (W : World) (b o : Nat) (x : ByteArray × Int) : Prop := ∀ j, j < 2 → W.cell? ⟨b, o + j, none⟩ = (tcs1 x)[j]?
def OpTs (W : World) (v : Value) (os : TL) : Prop := ∃ a cap, v = .slice a os.length cap ∧ (os = [] ∨ ∃ b o, a = some ⟨b, o, none⟩ ∧ ∀ i x, os[i]? = some x → OpT W b (o + i * 2) x)
theorem OpTs.at_ {W : World} {a : Option Addr} {n cap : Nat} {os : TL} (h : OpTs W (.slice a n cap) os) {i : Nat} {x : ByteArray × Int} (hx : os[i]? = some x) : ∃ b o, a = some ⟨b, o, none⟩ ∧ W.cell? ⟨b, o + i * 2, none⟩ = some (.string x.1) ∧ W.cell? ⟨b, o + i * 2 + 1, none⟩ = some (.int .i64 x.2) := by
  obtain ⟨a', c', e, h⟩ := h
  injection e with e1
  subst e1
  rcases h with rfl | ⟨b, o, rfl, h⟩
  · cases hx
  · refine ⟨b, o, rfl, ?_, ?_⟩
    · have := h i x hx 0 (by decide)
      rw [Nat.add_zero] at this
      exact this
    · exact h i x hx 1 (by decide)
theorem OpTs.below {W W' : World} {v : Value} {os : TL} (h : OpTs W v os) (hb : Below W.heap.size W W') : OpTs W' v os := by
  obtain ⟨a, cap, e, h⟩ := h
  refine ⟨a, cap, e, h.imp (fun h => h) ?_⟩
  rintro ⟨b, o, e2, h⟩
  exact ⟨b, o, e2, fun i x hx j hj => by
    have := h i x hx j hj
    have hc : ∃ u, (tcs1 x)[j]? = some u := ⟨_, List.getElem?_eq_getElem (by show j < 2; exact hj)⟩
    obtain ⟨u, hu⟩ := hc
    rw [hu] at this ⊢
    exact (World.cell?_of_block (hb.block b (World.block_lt_of_cell? _ _ this))).trans this⟩
section
variable {H : Type} {enc : TypeId × Value → H} {W : World}
set_option maxRecDepth 100000 in
theorem topic_open {n : Nat} {b o : Nat} {cs : List Value} {y : DataW H × List MemPlace} (hcs : W.cells? 0 ⟨b, o, none⟩ 2 = some cs) (h : DataW.trod enc Try.prog W 0 (fun _ => true) true n 31 cs = some y) :
    ∃ x : ByteArray × Int, OpT W b o x := by
  obtain ⟨_, hlen, hat⟩ := World.cells?_some hcs
  obtain ⟨xs, m, _, _, _, hxl, hf⟩ := DataW.trod_struct Try.underlying31 h
  match cs, hlen with
  | [c0, c1], _ =>
    have hx : xs.length = 2 := hxl
    match xs, hx with
    | [y0, y1], _ =>
      have f0 : DataW.trod enc Try.prog W 0 (fun _ => true) true m 9 [c0] = some y0 := hf 0 _ rfl
      have f1 : DataW.trod enc Try.prog W 0 (fun _ => true) true m 3 [c1] = some y1 := hf 1 _ rfl
      obtain ⟨t, e0, _, _⟩ := DataW.trod_string Try.underlying9 f0
      obtain ⟨p, e1, _, _⟩ := DataW.trod_int Try.underlying3 f1
      obtain rfl : c0 = _ := List.singleton_inj.1 e0
      obtain rfl : c1 = _ := List.singleton_inj.1 e1
      refine ⟨(t, p), fun j hj => ?_⟩
      have := hat j hj
      rw [uadd_none] at this
      exact this
set_option maxRecDepth 100000 in
theorem open_tops {n : Nat} {la : Option Addr} {len cap : Nat} {y : DataW H × List MemPlace} (h : DataW.trod enc Try.prog W 0 (fun _ => true) true n 22 [.slice la len cap] = some y) :
    ∃ os, OpTs W (.slice la len cap) os ∧ os.length ≤ maxLen ∧ True := by
  rcases open_slice Try.underlying22 h with ⟨hcs, _⟩ | ⟨a, l, c, m, q, D, Pl, hcs, _, hl, hm, hmm, _, hi⟩
  · cases hcs
    exact ⟨[], ⟨none, 0, rfl, .inl rfl⟩, Nat.zero_le _, trivial⟩
  · cases hcs
    have hC : Try.prog.cellsOf 31 = 2 := by kernel_rfl
    rcases Nat.eq_zero_or_pos len with h0 | h0
    · subst h0
      exact ⟨[], ⟨some a, cap, rfl, .inl rfl⟩, Nat.zero_le _, trivial⟩
    · have hml : len ≤ m := by rw [hmm]; simpa using hl
      obtain ⟨b, off, spot⟩ := a
      have hspot : spot = none := by
        obtain ⟨cs', h1, _⟩ := hi 0 (by omega)
        rw [hC] at h1
        obtain ⟨_, hlen, hat⟩ := World.cells?_some h1
        have h2 := hat 0 (by decide)
        rw [List.getElem?_eq_getElem (by omega)] at h2
        simpa [Addr.add] using World.cell?_spot h2
      subst hspot
      obtain ⟨X, hX⟩ := choose_lt (n := len) (p := fun i x => OpT W b (off + i * 2) x) (fun i hil => by
        obtain ⟨cs', h1, h2⟩ := hi i (by omega)
        rw [hC, uadd_none] at h1
        exact topic_open h1 h2)
      refine ⟨(List.range len).map X, ⟨_, cap, by simp, .inr ⟨b, off, rfl, fun i x hx => ?_⟩⟩, by simpa using Nat.le_trans hl hm, trivial⟩
      rw [List.getElem?_map] at hx
      obtain ⟨j, hj, rfl⟩ := Option.map_eq_some_iff.1 hx
      obtain ⟨h1, h2⟩ := List.getElem?_eq_some_iff.1 hj
      rw [List.getElem_range] at h2
      subst h2
      exact hX _ (by simpa using h1)
end
end Go.Proofs.Ytcdoicndpecfiaa

