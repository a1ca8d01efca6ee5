/-
  Part 31: what the statement needs of these texts: UOpn.
-/
import Derived.BigQuiet
import Derived.ChangeSame
import Derived.Deep.AppendLies
import Derived.Deep.AppendSrc
import Derived.Deep.DeepCutAuto
import Derived.Deep.DeepMust
import Derived.Deep.Grids
import Derived.Deep.OwnRows
import Derived.Deep.QuietTactic
import Derived.Deep.RegionHeld3
import Derived.Deep.RegionLaw
import Derived.IntWalk
import Derived.Laws.BitsAllLaws
import Derived.Laws.CopyOwn
import Derived.Laws.OwnMore
import Derived.Laws.PanicsMore
import Derived.Laws.Rows
import Derived.Laws.StructEq
import Derived.Lib.AppendZerosOnto
import Derived.Lib.BufferRead
import Derived.Lib.BufferWrite
import Derived.Lib.Hide
import Derived.Lib.SmallJoins
import Derived.Maps.AppendAt
import Derived.Maps.OwnSet
import Derived.Maps.RangeWalk
import Derived.OpenShut
import Derived.Orders
import Derived.ProofKit
import Derived.Shelf.Slices.In.SortNone
import Derived.Shelf.Sort.Plain
import Derived.Shelf.Strings.Prefix
import Derived.SliceStrings
import Derived.Sort.OwnSorted
import Derived.StillTailTactics
import Derived.StringKeys
import Derived.Test.YtcdoicndpecfiaaProg
import Derived.Test.YtcdoicndpecfiaaRows
import Derived.WalkKit
import Derived.WalkLawsBesides
import Derived.WalkSpells
import Derived.Test.YtcdoicndpecfiaaUa1
import Derived.Test.YtcdoicndpecfiaaUa3
import Derived.Test.YtcdoicndpecfiaaUa4
import Derived.Test.YtcdoicndpecfiaaUa5
import Derived.Test.YtcdoicndpecfiaaUa6
import Derived.Test.YtcdoicndpecfiaaUa7
import Derived.Test.YtcdoicndpecfiaaUa10
import Derived.Test.YtcdoicndpecfiaaUa11
import Derived.Test.YtcdoicndpecfiaaUa12
import Derived.Test.YtcdoicndpecfiaaUa14
import Derived.Test.YtcdoicndpecfiaaUa15
import Derived.Test.YtcdoicndpecfiaaUa16
import Derived.Test.YtcdoicndpecfiaaUa17
import Derived.Test.YtcdoicndpecfiaaUa18
import Derived.Test.YtcdoicndpecfiaaUa19
import Derived.Test.YtcdoicndpecfiaaUa20
import Derived.Test.YtcdoicndpecfiaaUa21
import Derived.Test.YtcdoicndpecfiaaUa22
import Derived.Test.YtcdoicndpecfiaaUa23
import Derived.Test.YtcdoicndpecfiaaUa24
import Derived.Test.YtcdoicndpecfiaaUa25
import Derived.Test.YtcdoicndpecfiaaUa26
import Derived.Test.YtcdoicndpecfiaaUa27
namespace Go.Proofs.Ytcdoicndpecfiaa
open Go.Joins Go.RowKit Go.Deep
open Go.ChangeShapes Go.WideShapes
set_option linter.unusedVariables false
set_option linter.unusedSimpArgs false

def OpT (W : World) (b o : Nat) (x : ByteArray × Int) : Prop := ∀ j, j < 2 → W.cell? ⟨b, o + j, none⟩ = (tcs1 x)[j]?
def OpTs (W : World) (v : Value) (os : TL) : Prop := ∃ a cap, v = .slice a os.length cap ∧ (os = [] ∨ ∃ b o, a = some ⟨b, o, none⟩ ∧ ∀ i x, os[i]? = some x → OpT W b (o + i * 2) x)
theorem OpTs.at_ {W : World} {a : Option Addr} {n cap : Nat} {os : TL} (h : OpTs W (.slice a n cap) os) {i : Nat} {x : ByteArray × Int} (hx : os[i]? = some x) : ∃ b o, a = some ⟨b, o, none⟩ ∧ W.cell? ⟨b, o + i * 2, none⟩ = some (.string x.1) ∧ W.cell? ⟨b, o + i * 2 + 1, none⟩ = some (.int .i64 x.2) := by
  obtain ⟨a', c', e, h⟩ := h
  injection e with e1
  subst e1
  rcases h with rfl | ⟨b, o, rfl, h⟩
  · cases hx
  · refine ⟨b, o, rfl, ?_, ?_⟩
    · have := h i x hx 0 (by decide)
      rw [Nat.add_zero] at this
      exact this
    · exact h i x hx 1 (by decide)
theorem OpTs.below {W W' : World} {v : Value} {os : TL} (h : OpTs W v os) (hb : Below W.heap.size W W') : OpTs W' v os := by
  obtain ⟨a, cap, e, h⟩ := h
  refine ⟨a, cap, e, h.imp (fun h => h) ?_⟩
  rintro ⟨b, o, e2, h⟩
  exact ⟨b, o, e2, fun i x hx j hj => by
    have := h i x hx j hj
    have hc : ∃ u, (tcs1 x)[j]? = some u := ⟨_, List.getElem?_eq_getElem (by show j < 2; exact hj)⟩
    obtain ⟨u, hu⟩ := hc
    rw [hu] at this ⊢
    exact (World.cell?_of_block (hb.block b (World.block_lt_of_cell? _ _ this))).trans this⟩
section
variable {H : Type} {enc : TypeId × Value → H} {W : World}
theorem ubools_open {n : Nat} {v : Value} {y : DataW H × List MemPlace} (h : DataW.trod enc Try.prog W 0 (fun _ => true) true n 43 [v] = some y) : ∃ zs, BoolsOf W v zs ∧ zs.length ≤ maxLen ∧ True := by
  rcases open_bools Try.underlying43 Try.underlying4 (by kernel_rfl) h with ⟨hcs, _⟩ | ⟨a, l, c, B, hcs, _, hl, hm, _, hcell⟩
  · obtain rfl : v = _ := List.singleton_inj.1 hcs
    exact ⟨[], ⟨none, 0, rfl, .inl rfl⟩, Nat.zero_le _, trivial⟩
  · obtain rfl : v = _ := List.singleton_inj.1 hcs
    refine ⟨(List.range l).map B, ⟨some a, c, by simp, ?_⟩, by simp; omega, trivial⟩
    rcases Nat.eq_zero_or_pos l with h | h
    · subst h; exact .inl rfl
    · right
      obtain ⟨b, off, spot⟩ := a
      have hc := hcell 0 (by omega)
      have hspot : spot = none := by simpa [Addr.add] using World.cell?_spot hc
      subst hspot
      refine ⟨b, off, rfl, fun i hi => ?_⟩
      have hi' : i < l := by simpa using hi
      have := hcell i (by omega)
      rw [uadd_none] at this
      rw [this]
      simp [List.getD_eq_getElem?_getD, hi']
end
end Go.Proofs.Ytcdoicndpecfiaa

