/-
  Part 4: what the statement needs of these texts: Words, In, WNums, Refs, Reads, WReads.
-/
import Derived.BigQuiet
import Derived.Deep.OwnRows
import Derived.Deep.QuietTactic
import Derived.Lib.Hide
import Derived.ProofKit
import Derived.Test.YtmekmcgdjlmmcaaRows
import Derived.WalkKit
import Derived.WalkLawsBesides
import Derived.WalkSpells
import Derived.Test.YtmekmcgdjlmmcaaChn2
import Derived.Test.YtmekmcgdjlmmcaaChn3
namespace Go.Proofs.Ytmekmcgdjlmmcaa
open Go.RowKit Go.Deep

/-- A slice value reads as these texts. -/
def Strs (w : World) (base : Nat) (v : Value) (ts : List ByteArray) : Prop :=
  ∃ a cap, v = .slice a ts.length cap ∧ (ts = [] ∨ ∃ b o, a = some ⟨b, o, none⟩ ∧ base ≤ b ∧ ∀ i, i < ts.length → w.cell? ⟨b, o + i, none⟩ = some (.string (ts.getD i ⟨#[]⟩)))

/-- A slice value reads as these numbers. -/
def IntsOf (k : IntKind) (w : World) (v : Value) (zs : List Int) : Prop :=
  ∃ a cap, v = .slice a zs.length cap ∧ (zs = [] ∨ ∃ b o, a = some ⟨b, o, none⟩ ∧ ∀ i, i < zs.length → w.cell? ⟨b, o + i, none⟩ = some (.int k (zs.getD i 0)))

abbrev Ints := IntsOf .i64

theorem Strs.cellAt {w : World} {base : Nat} {a : Option Addr} {len cap : Nat} {ts : List ByteArray} (h : Strs w base (.slice a len cap) ts) {i : Nat} (hi : i < ts.length) : ∃ b o, a = some ⟨b, o, none⟩ ∧ w.cell? ⟨b, o + i, none⟩ = some (.string (ts.getD i ⟨#[]⟩)) := by
  obtain ⟨a', cap', e, h⟩ := h
  cases e
  rcases h with h | ⟨b, o, rfl, _, h⟩
  · subst h; simp at hi
  · exact ⟨b, o, rfl, h i hi⟩

theorem Strs.form {w : World} {base : Nat} {v : Value} {ts : List ByteArray} (h : Strs w base v ts) : ∃ a cap, v = .slice a ts.length cap := by
  obtain ⟨a', cap', e, _⟩ := h
  exact ⟨a', cap', e⟩

theorem Strs.below {w w' : World} {v : Value} {ts : List ByteArray} {B base : Nat} (h : Strs w base v ts) (hb : Below B w w') (hB : w.heap.size ≤ B) : Strs w' base v ts := by
  obtain ⟨a, cap, rfl, h⟩ := h
  refine ⟨a, cap, rfl, ?_⟩
  rcases h with h | ⟨b, o, rfl, hb0, h⟩
  · exact .inl h
  · refine .inr ⟨b, o, rfl, hb0, fun i hi => ?_⟩
    have hlt := World.block_lt_of_cell? _ _ (h i hi)
    exact (hb.cell (p := ⟨b, o + i, none⟩) (Nat.lt_of_lt_of_le hlt hB)).trans (h i hi)

theorem Strs.zero {w : World} {B : Nat} {v : Value} {ts : List ByteArray} (h : Strs w B v ts) : Strs w 0 v ts := by
  obtain ⟨a, cap, rfl, h⟩ := h
  refine ⟨a, cap, rfl, ?_⟩
  rcases h with h | ⟨b, o, rfl, _, h⟩
  · exact .inl h
  · exact .inr ⟨b, o, rfl, Nat.zero_le _, h⟩

theorem below_grown {B : Nat} {w w1 w2 : World} (h : Below B w w1) (hg : w1.grownBy w2 none) (hB : B ≤ w.heap.size) : Below B w w2 :=
  h.grown hg (Nat.le_trans hB h.size) (fun k e => by cases e)

theorem IntsOf.below {k : IntKind} {w w' : World} {v : Value} {zs : List Int} {B : Nat} (h : IntsOf k w v zs) (hb : Below B w w') (hB : w.heap.size ≤ B) : IntsOf k w' v zs := by
  obtain ⟨a, cap, rfl, h⟩ := h
  refine ⟨a, cap, rfl, ?_⟩
  rcases h with h | ⟨b, o, rfl, h⟩
  · exact .inl h
  · refine .inr ⟨b, o, rfl, fun i hi => ?_⟩
    have hlt := World.block_lt_of_cell? _ _ (h i hi)
    exact (hb.cell (p := ⟨b, o + i, none⟩) (Nat.lt_of_lt_of_le hlt hB)).trans (h i hi)

theorem IntsOf.cellAt {k : IntKind} {w : World} {a : Option Addr} {len cap : Nat} {zs : List Int} (h : IntsOf k w (.slice a len cap) zs) {i : Nat} (hi : i < zs.length) : ∃ b o, a = some ⟨b, o, none⟩ ∧ len = zs.length ∧ w.cell? ⟨b, o + i, none⟩ = some (.int k (zs.getD i 0)) := by
  obtain ⟨a', cap', e, h⟩ := h
  cases e
  rcases h with h | ⟨b, o, rfl, h⟩
  · subst h; simp at hi
  · exact ⟨b, o, rfl, rfl, h i hi⟩

theorem add_none (b o i : Nat) : (⟨b, o, none⟩ : Addr).add i = ⟨b, o + i, none⟩ := by unfold Addr.add; split <;> simp_all

theorem strs_of {w : World} {x : Addr} {len cap : Nat} {ss : List ByteArray} (hl : len ≤ cap) (hz : ss.length = cap) (hcell : ∀ i, i < ss.length → w.cell? (x.add i) = some (.string (ss.getD i ByteArray.empty))) :
    Strs w 0 (.slice (some x) len cap) (ss.take len) := by
  have hlen : (ss.take len).length = len := by rw [List.length_take]; omega
  refine ⟨some x, cap, by rw [hlen], ?_⟩
  rcases Nat.eq_zero_or_pos len with h | h
  · subst h; exact .inl rfl
  · right
    obtain ⟨b, off, spot⟩ := x
    have hc := hcell 0 (by omega)
    have hspot : spot = none := by simpa [Addr.add] using World.cell?_spot hc
    subst hspot
    refine ⟨b, off, rfl, Nat.zero_le _, fun i hi => ?_⟩
    rw [hlen] at hi
    have := hcell i (by omega)
    rw [add_none] at this
    rw [show (⟨#[]⟩ : ByteArray) = ByteArray.empty from rfl]
    simpa [List.getD_eq_getElem?_getD, List.getElem?_take, hi] using this

theorem grownBy_refl (w : World) (r : Option Nat) : w.grownBy w r := ⟨rfl, rfl, rfl, Nat.le_refl _, fun _ _ _ => rfl⟩

theorem ba_toList (s : ByteArray) : (⟨s.toList.toArray⟩ : ByteArray) = s := by
  rw [ByteArray.toList_eq]

theorem below_alloc {w w1 : World} (h : Below w.heap.size w w1) (o : Obj) : Below w.heap.size w (w1.alloc o) := h.alloc h.size o

theorem below_drewN {B : Nat} {a w : World} (h : Below B a w) (n : Nat) : Below B a (w.drewN n) := ⟨h.os, h.tape, h.output, h.size, h.block⟩
end Go.Proofs.Ytmekmcgdjlmmcaa

namespace Go.Proofs.Ytmekmcgdjlmmcaa.Oc
open Go.RowKit Go.Deep

theorem add_none (b o i : Nat) : (⟨b, o, none⟩ : Addr).add i = ⟨b, o + i, none⟩ := by unfold Addr.add; split <;> simp_all

theorem strs_of {w : World} {x : Addr} {len cap : Nat} {ss : List ByteArray} (hl : len ≤ cap) (hz : ss.length = cap) (hcell : ∀ i, i < ss.length → w.cell? (x.add i) = some (.string (ss.getD i ByteArray.empty))) :
    Strs w 0 (.slice (some x) len cap) (ss.take len) := by
  have hlen : (ss.take len).length = len := by rw [List.length_take]; omega
  refine ⟨some x, cap, by rw [hlen], ?_⟩
  rcases Nat.eq_zero_or_pos len with h | h
  · subst h; exact .inl rfl
  · right
    obtain ⟨b, off, spot⟩ := x
    have hc := hcell 0 (by omega)
    have hspot : spot = none := by simpa [Addr.add] using World.cell?_spot hc
    subst hspot
    refine ⟨b, off, rfl, Nat.zero_le _, fun i hi => ?_⟩
    rw [hlen] at hi
    have := hcell i (by omega)
    rw [add_none] at this
    rw [show (⟨#[]⟩ : ByteArray) = ByteArray.empty from rfl]
    simpa [List.getD_eq_getElem?_getD, List.getElem?_take, hi] using this

end Go.Proofs.Ytmekmcgdjlmmcaa.Oc

namespace Go.Proofs.Ytmekmcgdjlmmcaa.Oc
open Go.RowKit Go.Deep

theorem IntsOf.below {k : IntKind} {w w' : World} {v : Value} {zs : List Int} {B : Nat} (h : IntsOf k w v zs) (hb : Below B w w') (hB : w.heap.size ≤ B) : IntsOf k w' v zs := by
  obtain ⟨a, cap, rfl, h⟩ := h
  refine ⟨a, cap, rfl, ?_⟩
  rcases h with h | ⟨b, o, rfl, h⟩
  · exact .inl h
  · refine .inr ⟨b, o, rfl, fun i hi => ?_⟩
    have hlt := World.block_lt_of_cell? _ _ (h i hi)
    exact (hb.cell (p := ⟨b, o + i, none⟩) (Nat.lt_of_lt_of_le hlt hB)).trans (h i hi)

theorem IntsOf.cellAt {k : IntKind} {w : World} {a : Option Addr} {len cap : Nat} {zs : List Int} (h : IntsOf k w (.slice a len cap) zs) {i : Nat} (hi : i < zs.length) : ∃ b o, a = some ⟨b, o, none⟩ ∧ len = zs.length ∧ w.cell? ⟨b, o + i, none⟩ = some (.int k (zs.getD i 0)) := by
  obtain ⟨a', cap', e, h⟩ := h
  cases e
  rcases h with h | ⟨b, o, rfl, h⟩
  · subst h; simp at hi
  · exact ⟨b, o, rfl, rfl, h i hi⟩

end Go.Proofs.Ytmekmcgdjlmmcaa.Oc

namespace Go.Proofs.Ytmekmcgdjlmmcaa.Oc
open Go.RowKit Go.Deep

theorem Strs.cellAt {w : World} {base : Nat} {a : Option Addr} {len cap : Nat} {ts : List ByteArray} (h : Strs w base (.slice a len cap) ts) {i : Nat} (hi : i < ts.length) : ∃ b o, a = some ⟨b, o, none⟩ ∧ w.cell? ⟨b, o + i, none⟩ = some (.string (ts.getD i ⟨#[]⟩)) := by
  obtain ⟨a', cap', e, h⟩ := h
  cases e
  rcases h with h | ⟨b, o, rfl, _, h⟩
  · subst h; simp at hi
  · exact ⟨b, o, rfl, h i hi⟩
theorem Strs.form {w : World} {base : Nat} {v : Value} {ts : List ByteArray} (h : Strs w base v ts) : ∃ a cap, v = .slice a ts.length cap := by
  obtain ⟨a', cap', e, _⟩ := h
  exact ⟨a', cap', e⟩
theorem Strs.below {w w' : World} {v : Value} {ts : List ByteArray} {B base : Nat} (h : Strs w base v ts) (hb : Below B w w') (hB : w.heap.size ≤ B) : Strs w' base v ts := by
  obtain ⟨a, cap, rfl, h⟩ := h
  refine ⟨a, cap, rfl, ?_⟩
  rcases h with h | ⟨b, o, rfl, hb0, h⟩
  · exact .inl h
  · refine .inr ⟨b, o, rfl, hb0, fun i hi => ?_⟩
    have hlt := World.block_lt_of_cell? _ _ (h i hi)
    exact (hb.cell (p := ⟨b, o + i, none⟩) (Nat.lt_of_lt_of_le hlt hB)).trans (h i hi)

theorem ba_toList (s : ByteArray) : (⟨s.toList.toArray⟩ : ByteArray) = s := by
  rw [ByteArray.toList_eq]

end Go.Proofs.Ytmekmcgdjlmmcaa.Oc

namespace Go.Proofs.Ytmekmcgdjlmmcaa.Oc
open Go.RowKit Go.Deep

theorem info9 : (Try.prog.info? 9).map (fun i => (i.zero, i.size, i.bytes)) = some (some (.string ⟨#[]⟩), 1, 16) := by kernel_rfl

theorem strs_own {w : World} {B : Nat} {v : Value} {ts : List ByteArray} (h : w.ownsRow B 9 1 v ts.length (ts.map Value.string)) : Strs w B v ts := by
  rcases h.2 with ⟨rfl, h0⟩ | ⟨g, cap, cur, rfl, _⟩
  · have : ts = [] := List.eq_nil_of_length_eq_zero h0
    subst this
    exact ⟨none, 0, rfl, .inl rfl⟩
  · refine ⟨some ⟨g, 0, none⟩, cap, rfl, .inr ⟨g, 0, rfl, (h.lt g rfl).1, fun i hi => ?_⟩⟩
    have := h.cells rfl i (.string (ts.getD i ⟨#[]⟩)) (by simp [List.getElem?_map, List.getElem?_eq_getElem hi, List.getD_eq_getElem?_getD])
    rwa [add_none] at this

end Go.Proofs.Ytmekmcgdjlmmcaa.Oc

namespace Go.Proofs.Ytmekmcgdjlmmcaa.Oc
open Go.RowKit Go.Deep

theorem below_grown {B : Nat} {w w1 w2 : World} (h : Below B w w1) (hg : w1.grownBy w2 none) (hB : B ≤ w.heap.size) : Below B w w2 :=
  h.grown hg (Nat.le_trans hB h.size) (fun k e => by cases e)
theorem Strs.zero {w : World} {B : Nat} {v : Value} {ts : List ByteArray} (h : Strs w B v ts) : Strs w 0 v ts := by
  obtain ⟨a, cap, rfl, h⟩ := h
  refine ⟨a, cap, rfl, ?_⟩
  rcases h with h | ⟨b, o, rfl, _, h⟩
  · exact .inl h
  · exact .inr ⟨b, o, rfl, Nat.zero_le _, h⟩
end Go.Proofs.Ytmekmcgdjlmmcaa.Oc

