/-
  Part 39: what the statement needs of these texts: QModS, QMatch, QPlI, QPlJ, QPlK.
-/
import Derived.BigQuiet
import Derived.BigRegion
import Derived.Deep.AppendLies
import Derived.Deep.DrawnRows
import Derived.Deep.Grids
import Derived.Deep.OwnRows
import Derived.Deep.QuietTactic
import Derived.Deep.RegionHeld3
import Derived.DeepKeys4
import Derived.IntWalk
import Derived.Laws.CopyOwn
import Derived.Laws.OwnMore
import Derived.Laws.RangeAny
import Derived.Lib.AppendStr
import Derived.Lib.AppendZerosOnto
import Derived.Lib.Atoi
import Derived.Lib.AtoiErrMem
import Derived.Lib.BufferRead
import Derived.Lib.BufferWrite
import Derived.Lib.Builder
import Derived.Lib.Hide
import Derived.Lib.ItoaNum
import Derived.Lib.LaidTab
import Derived.Lib.MinMax
import Derived.Lib.OthersKept
import Derived.Lib.Repeat
import Derived.Lib.SliceRun
import Derived.Lib.Slices
import Derived.Lib.SmallJoins
import Derived.Lib.Strings
import Derived.Lib.UnsafeStr
import Derived.Maps.AppendAt
import Derived.Maps.OwnSet
import Derived.Maps.RangeWalk
import Derived.OpenShut
import Derived.Orders
import Derived.ProofKit
import Derived.RowKit
import Derived.Shelf.GgClosure.StringsIndexFunc
import Derived.Shelf.GgClosure.StringsIndexFuncTop
import Derived.Shelf.LaysM
import Derived.Shelf.SlSortCmp.NoneTotal
import Derived.Shelf.Slices.In.SortNone
import Derived.Shelf.Slices.SearchI
import Derived.Shelf.Small.Wraps
import Derived.Shelf.Sort.Plain
import Derived.Shelf.Strconv.Atoi
import Derived.Shelf.Strconv.Itoa3
import Derived.Shelf.Strings.Builder1
import Derived.Shelf.Strings.Prefix
import Derived.Shelf.Strings.Repeat
import Derived.Sort.KeysCollected
import Derived.Sort.OwnSorted
import Derived.StillTailTactics
import Derived.StringKeys
import Derived.Test.YtmhojpipmllphaaGreatDoorProg
import Derived.Test.YtmhojpipmllphaaGreatDoorRows
import Derived.WalkKit
import Derived.WalkLawsBesides
import Derived.WalkSmall
import Derived.WalkSpells
import Derived.Test.YtmhojpipmllphaaGreatDoorQpl1
import Derived.Test.YtmhojpipmllphaaGreatDoorQpl2
import Derived.Test.YtmhojpipmllphaaGreatDoorQpl3
import Derived.Test.YtmhojpipmllphaaGreatDoorQpl4
import Derived.Test.YtmhojpipmllphaaGreatDoorQpl5
import Derived.Test.YtmhojpipmllphaaGreatDoorQpl6
import Derived.Test.YtmhojpipmllphaaGreatDoorQpl7
import Derived.Test.YtmhojpipmllphaaGreatDoorQpl8
import Derived.Test.YtmhojpipmllphaaGreatDoorQpl10
import Derived.Test.YtmhojpipmllphaaGreatDoorQpl11
import Derived.Test.YtmhojpipmllphaaGreatDoorQpl12
import Derived.Test.YtmhojpipmllphaaGreatDoorQpl13
import Derived.Test.YtmhojpipmllphaaGreatDoorQpl14
import Derived.Test.YtmhojpipmllphaaGreatDoorQpl15
import Derived.Test.YtmhojpipmllphaaGreatDoorQpl16
import Derived.Test.YtmhojpipmllphaaGreatDoorQpl17
import Derived.Test.YtmhojpipmllphaaGreatDoorQpl18
import Derived.Test.YtmhojpipmllphaaGreatDoorQpl19
import Derived.Test.YtmhojpipmllphaaGreatDoorQpl20
import Derived.Test.YtmhojpipmllphaaGreatDoorQpl21
import Derived.Test.YtmhojpipmllphaaGreatDoorQpl22
import Derived.Test.YtmhojpipmllphaaGreatDoorQpl23
import Derived.Test.YtmhojpipmllphaaGreatDoorQpl24
import Derived.Test.YtmhojpipmllphaaGreatDoorQpl26
import Derived.Test.YtmhojpipmllphaaGreatDoorQpl27
import Derived.Test.YtmhojpipmllphaaGreatDoorQpl28
import Derived.Test.YtmhojpipmllphaaGreatDoorQpl29
import Derived.Test.YtmhojpipmllphaaGreatDoorQpl30
import Derived.Test.YtmhojpipmllphaaGreatDoorQpl31
import Derived.Test.YtmhojpipmllphaaGreatDoorQpl32
import Derived.Test.YtmhojpipmllphaaGreatDoorQpl33
import Derived.Test.YtmhojpipmllphaaGreatDoorQpl34
import Derived.Test.YtmhojpipmllphaaGreatDoorQpl35
import Derived.Test.YtmhojpipmllphaaGreatDoorQpl36
import Derived.Test.YtmhojpipmllphaaGreatDoorQpl37
import Derived.Test.YtmhojpipmllphaaGreatDoorQpl38
namespace Go.Proofs.YtmhojpipmllphaaGreatDoor
open Go.RowKit Go.Deep
set_option linter.unusedVariables false
set_option linter.unusedSimpArgs false

/-- A model of a queue, and where its entries lie. -/
structure MoM where
  t : ByteArray
  q : Int
  base : Nat
  least : Nat
  es : List PlM
  sl : Value
def MoM.cells (m : MoM) : List Value := [.string m.t, .int .i64 m.q, .int .i64 (m.base : Int), .int .i64 (m.least : Int), m.sl]
def plCells (p : PlM) : List Value := [.int .i64 p.a, .int .i64 p.b, .int .i64 p.c, .int .i64 p.d]
/-- An own row of entries. -/
def EsAt (w : World) (lo : Nat) (v : Value) (l : List PlM) : Prop := w.ownsRow lo 32 4 v l.length (l.flatMap plCells)
/-- The list of models: its row, each model's entries, all apart. -/
structure ModI (w : World) (lo : Nat) (v : Value) (Ms : List MoM) : Prop where
  row : w.ownsRow lo 39 5 v Ms.length (Ms.flatMap MoM.cells)
  es : ∀ m ∈ Ms, EsAt w lo m.sl m.es
  apart : ∀ m ∈ Ms, ∀ q, m.sl.ownBlock = some q → v.ownBlock ≠ some q
/-- The law's blocks. -/
def modF (v : Value) (Ms : List MoM) (q : Nat) : Prop := v.ownBlock = some q ∨ ∃ m ∈ Ms, m.sl.ownBlock = some q
theorem ModI.lt {w : World} {lo : Nat} {v : Value} {Ms : List MoM} (h : ModI w lo v Ms) {q : Nat} (hq : modF v Ms q) : lo ≤ q ∧ q < w.heap.size := by
  rcases hq with hq | ⟨m, hm, hq⟩
  · exact h.row.lt q hq
  · exact (h.es m hm).lt q hq
theorem own_chg {S : Nat → Prop} {w W : World} {base : Nat} {e : TypeId} {sz n : Nat} {v : Value} {xs : List Value} (h : w.ownsRow base e sz v n xs) (hc : Chg S w W) (hS : ∀ q, v.ownBlock = some q → ¬ S q) : W.ownsRow base e sz v n xs := by
  refine ⟨h.1, ?_⟩
  rcases h.2 with h0 | ⟨g1, cap, cur, e1, hbase, hbk, rest⟩
  · exact .inl h0
  · exact .inr ⟨g1, cap, cur, e1, hbase, (hc.block g1 (Array.getElem?_eq_some_iff.1 hbk).1 (hS g1 (by rw [e1]; rfl))).trans hbk, rest⟩
/-- What is done elsewhere. -/
theorem ModI.chg {S : Nat → Prop} {w W : World} {lo : Nat} {v : Value} {Ms : List MoM} (h : ModI w lo v Ms) (hc : Chg S w W) (hS : ∀ q, modF v Ms q → ¬ S q) : ModI W lo v Ms :=
  ⟨own_chg h.row hc (fun q hq => hS q (.inl hq)), fun m hm => own_chg (h.es m hm) hc (fun q hq => hS q (.inr ⟨m, hm, hq⟩)), h.apart⟩
theorem ModI.new {w W : World} {lo : Nat} {v : Value} {Ms : List MoM} (h : ModI w lo v Ms) (hc : Chg (fun _ => False) w W) : ModI W lo v Ms := h.chg hc (fun _ _ x => x)
theorem modI_none (w : World) (lo : Nat) : ModI w lo (.slice none 0 0) [] := ⟨World.ownsRow_nil _ _ _ _, (fun m hm => by cases hm), (fun m hm => by cases hm)⟩
/-- Apart from the queues' blocks; it stays so over a call of theirs. -/
def Sep (F : Nat → Prop) (v : Value) (Ms : List MoM) : Prop := ∀ q, modF v Ms q → ¬ F q
theorem ModI.call {w W : World} {F F' : Nat → Prop} {lo : Nat} {v : Value} {Ms : List MoM} (h : ModI w lo v Ms) (hs : Sep F v Ms) (ht : QTo w F W F') : ModI W lo v Ms ∧ Sep F' v Ms :=
  ⟨h.chg ht.chg hs, fun q hq hx => by
    rcases ht.new q hx with a | a
    · exact hs q hq a
    · have := (h.lt hq).2
      omega⟩
/-- What find reads. -/
theorem ModI.find {w : World} {lo : Nat} {v : Value} {Ms : List MoM} (h : ModI w lo v Ms) : ∃ (p : Option Addr) (cap : Nat), v = .slice p Ms.length cap ∧ ∀ i m, Ms[i]? = some m → ∃ b, p = some ⟨b, 0, none⟩ ∧ lo ≤ b ∧ b < w.heap.size ∧ (∀ i, w.frozen? ⟨b, i, none⟩ = false) ∧ ∀ j, j < 5 → w.cell? ⟨b, i * 5 + j, none⟩ = m.cells[j]? := by
  have hlen : ∀ x : MoM, x.cells.length = 5 := fun _ => rfl
  rcases h.row.2 with ⟨rfl, h0⟩ | ⟨g1, cap, cur, rfl, hbase, hb, h1, h2, h3, h4⟩
  · obtain rfl : Ms = [] := List.length_eq_zero_iff.1 h0
    exact ⟨none, 0, rfl, fun i m hi => by simp at hi⟩
  · refine ⟨_, cap, rfl, fun i m hi => ⟨g1, rfl, hbase, (Array.getElem?_eq_some_iff.1 hb).1, fun k => by simp [World.frozen?, hb], fun j hj => ?_⟩⟩
    have hlt := (List.getElem?_eq_some_iff.1 hi).1
    have e1 : (cur.toList.take (Ms.length * 5))[i * 5 + j]? = (Ms.flatMap MoM.cells)[i * 5 + j]? := by rw [h4]
    rw [List.getElem?_take, if_pos (by omega), Array.getElem?_toList, qflat_get hlen Ms i j hj, hi] at e1
    simp only [World.cell?, hb]
    exact e1
theorem EsAt.plc {w : World} {lo : Nat} {v : Value} {l : List PlM} (h : EsAt w lo v l) {b : Nat} (hb : v.ownBlock ≠ some b) : ∃ (p : Option Addr) (cap : Nat), v = .slice p l.length cap ∧ PlC w b p l ∧ ∀ i x, l[i]? = some x → ∃ q, p = some ⟨q, 0, none⟩ ∧ ∀ j, j < 4 → w.cell? ⟨q, i * 4 + j, none⟩ = (plCells x)[j]? := by
  have hlen : ∀ x : PlM, (plCells x).length = 4 := fun _ => rfl
  rcases h.2 with ⟨rfl, h0⟩ | ⟨g1, cap, cur, rfl, hbase, hbk, h1, h2, h3, h4⟩
  · obtain rfl : l = [] := List.length_eq_zero_iff.1 h0
    exact ⟨none, 0, rfl, fun i m hi => by simp at hi, fun i m hi => by simp at hi⟩
  · have key : ∀ i x, l[i]? = some x → ∀ j, j < 4 → w.cell? ⟨g1, i * 4 + j, none⟩ = (plCells x)[j]? := fun i x hi j hj => by
      have hlt := (List.getElem?_eq_some_iff.1 hi).1
      have e1 : (cur.toList.take (l.length * 4))[i * 4 + j]? = (l.flatMap plCells)[i * 4 + j]? := by rw [h4]
      rw [List.getElem?_take, if_pos (by omega), Array.getElem?_toList, qflat_get hlen l i j hj, hi] at e1
      simp only [World.cell?, hbk]
      exact e1
    refine ⟨_, cap, rfl, fun i x hi => ⟨g1, rfl, fun hx => hb (by rw [← hx]; rfl), ?_⟩, fun i x hi => ⟨g1, rfl, key i x hi⟩⟩
    have := key i x hi 0 (by decide)
    exact this
/-- A model with another least position. -/
def MoM.at_ (m : MoM) (x : Nat) : MoM := { m with least := x }
theorem flat_at {Ms : List MoM} {i : Nat} {m m' : MoM} {c0 : Nat} {u : Value} (hm : Ms[i]? = some m) (h0 : c0 < 5) (hu : m'.cells = m.cells.set c0 u) : (Ms.set i m').flatMap MoM.cells = (Ms.flatMap MoM.cells).set (i * 5 + c0) u := by
  have hlen : ∀ x : MoM, x.cells.length = 5 := fun _ => rfl
  have hl : ∀ l : List MoM, (l.flatMap MoM.cells).length = l.length * 5 := fun l => by
    induction l with
    | nil => rfl
    | cons a l ih => rw [List.flatMap_cons, List.length_append, ih, hlen, List.length_cons]; omega
  have hi := (List.getElem?_eq_some_iff.1 hm).1
  apply List.ext_getElem?
  intro t
  by_cases ht : t < Ms.length * 5
  · obtain ⟨a, c, rfl, hc⟩ : ∃ a c, t = a * 5 + c ∧ c < 5 := ⟨t / 5, t % 5, by omega, by omega⟩
    rw [qflat_get hlen _ a c hc, List.getElem?_set, List.getElem?_set, qflat_get hlen _ a c hc]
    by_cases ha : i = a
    · subst ha
      rw [if_pos rfl, if_pos hi, hm]
      by_cases hc3 : c = c0
      · subst hc3
        rw [if_pos rfl, if_pos (by rw [hl]; omega)]
        show m'.cells[c]? = some u
        rw [hu, List.getElem?_set, if_pos rfl, if_pos (by rw [hlen]; exact h0)]
      · rw [if_neg (by omega)]
        show m'.cells[c]? = m.cells[c]?
        rw [hu, List.getElem?_set, if_neg (fun hx => hc3 hx.symm)]
    · rw [if_neg ha, if_neg (by omega)]
  · rw [List.getElem?_eq_none (by rw [hl, List.length_set]; omega), List.getElem?_eq_none (by rw [List.length_set, hl]; omega)]
/-- One cell of one model is turned. -/
theorem ModI.set {w w' : World} {lo : Nat} {Ms : List MoM} {b cap : Nat} {len : Nat} (h : ModI w lo (.slice (some ⟨b, 0, none⟩) len cap) Ms) {i : Nat} {m m' : MoM} (hm : Ms[i]? = some m) {c0 : Nat} {u : Value} (h0 : c0 < 5) (hu : m'.cells = m.cells.set c0 u) (ho : OneC w w' b (i * 5 + c0) u)
    (hes : EsAt w lo m'.sl m'.es) (hap : ∀ q, m'.sl.ownBlock = some q → q ≠ b) :
    ModI w' lo (.slice (some ⟨b, 0, none⟩) len cap) (Ms.set i m') := by
  have hi := (List.getElem?_eq_some_iff.1 hm).1
  have hvo : (Value.slice (some ⟨b, 0, none⟩) len cap).ownBlock = some b := rfl
  have hmem : ∀ y ∈ Ms.set i m', EsAt w lo y.sl y.es ∧ ∀ q, y.sl.ownBlock = some q → q ≠ b := fun y hy => by
    rcases List.mem_or_eq_of_mem_set hy with h1 | h1
    · exact ⟨h.es y h1, fun q hq hx => h.apart y h1 q hq (by rw [hx]; rfl)⟩
    · rw [h1]; exact ⟨hes, hap⟩
  refine ⟨?_, fun y hy => own_chg (hmem y hy).1 ho.chg (hmem y hy).2, fun y hy q hq hx => (hmem y hy).2 q hq (by rw [hvo] at hx; injection hx with hx; exact hx.symm)⟩
  have hl0 := h.row.1
  refine ⟨by rw [flat_at hm h0 hu, List.length_set, hl0, List.length_set], ?_⟩
  rcases h.row.2 with ⟨e, h0'⟩ | ⟨g1, cap2, cur, e, hbase, hb, h1, h2, h3, h4⟩
  · cases e
  · right
    have e2 := e
    injection e2 with e3 _ _
    injection e3 with e4
    injection e4 with e5 _ _
    subst e5
    refine ⟨b, cap2, _, by rw [List.length_set]; exact e, hbase, ho.blk _ _ hb, by rw [List.length_set]; exact h1, h2, by rw [Array.size_setIfInBounds]; exact h3, ?_⟩
    rw [flat_at hm h0 hu, ← h4, List.length_set, Array.toList_setIfInBounds]
    apply List.ext_getElem?
    intro j
    rw [List.getElem?_take, List.getElem?_set, List.getElem?_set, List.getElem?_take]
    have hcs : Ms.length * 5 ≤ cur.toList.length := by
      have e0 : cur.toList.length = cur.size := Array.length_toList
      rw [e0, h3]
      exact Nat.mul_le_mul_right _ h1
    by_cases hj : j < Ms.length * 5
    · rw [if_pos hj, if_pos hj]
      by_cases hk : i * 5 + c0 = j
      · subst hk
        rw [if_pos rfl, if_pos rfl, if_pos (by omega), if_pos (by rw [List.length_take]; omega)]
      · rw [if_neg hk, if_neg hk]
    · rw [if_neg hj, if_neg (by omega), if_neg hj]
theorem ModI.trim {w w' : World} {lo : Nat} {Ms : List MoM} {b cap : Nat} {len : Nat} (h : ModI w lo (.slice (some ⟨b, 0, none⟩) len cap) Ms) {i : Nat} {m : MoM} (hm : Ms[i]? = some m) (x : Nat) (ho : OneC w w' b (i * 5 + 3) (.int .i64 (x : Int))) :
    ModI w' lo (.slice (some ⟨b, 0, none⟩) len cap) (Ms.set i (m.at_ x)) :=
  h.set hm (by decide) rfl ho (h.es m (List.mem_of_getElem? hm)) (fun q hq hx => h.apart m (List.mem_of_getElem? hm) q hq (by rw [hx]; rfl))
/-- Other entries of a model. -/
def MoM.of (m : MoM) (v : Value) (l : List PlM) : MoM := { m with es := l, sl := v }
theorem ModI.entry {w w' : World} {lo : Nat} {Ms : List MoM} {b cap : Nat} {len : Nat} (h : ModI w lo (.slice (some ⟨b, 0, none⟩) len cap) Ms) {i : Nat} {m : MoM} (hm : Ms[i]? = some m) {v : Value} {l : List PlM} (ho : OneC w w' b (i * 5 + 4) v) (hes : EsAt w lo v l) (hap : ∀ q, v.ownBlock = some q → q ≠ b) :
    ModI w' lo (.slice (some ⟨b, 0, none⟩) len cap) (Ms.set i (m.of v l)) := h.set hm (m' := m.of v l) (by decide) rfl ho hes hap
/-- One model more. -/
theorem ModI.more {w w' : World} {lo : Nat} {v v' : Value} {Ms : List MoM} (h : ModI w lo v Ms) {m : MoM} (ho : w'.ownsRow lo 39 5 v' (Ms.length + 1) (Ms.flatMap MoM.cells ++ m.cells)) (hg : w.grownBy w' v.ownBlock) (hv : ∀ q, v'.ownBlock = some q → v.ownBlock = some q ∨ w.heap.size ≤ q)
    (hes : EsAt w' lo m.sl m.es) (hap : ∀ q, m.sl.ownBlock = some q → v'.ownBlock ≠ some q) : ModI w' lo v' (Ms ++ [m]) := by
  refine ⟨by rw [List.length_append, List.flatMap_append]; simpa using ho, fun y hy => ?_, fun y hy q hq hx => ?_⟩
  · rcases List.mem_append.1 hy with hy | hy
    · refine (h.es y hy).kept hg ?_
      by_cases h0 : y.sl.ownBlock = none
      · exact .inl h0
      · right
        intro hx
        obtain ⟨q, hq⟩ := Option.ne_none_iff_exists'.1 h0
        exact h.apart y hy q hq (hx ▸ hq)
    · rw [List.mem_singleton] at hy
      rw [hy]
      exact hes
  · rcases List.mem_append.1 hy with hy | hy
    · rcases hv q hx with a | a
      · exact h.apart y hy q hq a
      · have := ((h.es y hy).lt q hq).2
        omega
    · rw [List.mem_singleton] at hy
      rw [hy] at hq
      exact hap q hq hx
end Go.Proofs.YtmhojpipmllphaaGreatDoor

namespace Go.Proofs.YtmhojpipmllphaaGreatDoor
open Go.RowKit Go.Deep
set_option linter.unusedVariables false
set_option linter.unusedSimpArgs false

def MoM.key (m : MoM) : ByteArray × Int := (m.t, m.q)
structure Same (m : MoM) (x : LnM) : Prop where
  base : x.base = m.base
  least : x.least = m.least
  es : x.es = m.es
structure Match (L : List (QK × LnM)) (Ms : List MoM) : Prop where
  nd : (L.map (·.1)).Nodup
  perm : (Ms.map MoM.key).Perm (L.map fun p => p.1.1)
  at_ : ∀ m ∈ Ms, ∀ k : QK, k.1 = m.key → ∃ x, getK L k = some x ∧ Same m x
theorem Match.nil : Match [] [] := ⟨List.nodup_nil, List.Perm.refl _, fun m hm => by cases hm⟩
theorem Match.len {L : List (QK × LnM)} {Ms : List MoM} (h : Match L Ms) : Ms.length = L.length := by
  have := h.perm.length_eq
  rwa [List.length_map, List.length_map] at this
theorem Match.keys {L : List (QK × LnM)} {Ms : List MoM} (h : Match L Ms) : (Ms.map MoM.key).Nodup := by
  refine h.perm.nodup_iff.2 ?_
  have e : (L.map fun p => p.1.1) = (L.map (·.1)).map Subtype.val := by rw [List.map_map]; rfl
  rw [e]
  have h2 : ∀ l : List QK, l.Nodup → (l.map Subtype.val).Nodup := fun l hl => by
    unfold List.Nodup at *
    rw [List.pairwise_map]
    exact hl.imp (fun hne hx => hne (Subtype.ext hx))
  exact h2 _ h.nd
theorem match_none {L : List (QK × LnM)} {Ms : List MoM} (h : Match L Ms) {k : QK} (hk : ∀ m ∈ Ms, m.key ≠ k.1) : getK L k = none := by
  cases hg : getK L k with
  | none => rfl
  | some x =>
    have h1 : k.1 ∈ L.map fun p => p.1.1 := List.mem_map.2 ⟨(k, x), getK_mem hg, rfl⟩
    obtain ⟨m, hm, hx⟩ := List.mem_map.1 (h.perm.mem_iff.2 h1)
    exact absurd hx (hk m hm)
theorem dropK_snoc_nd {L : List (QK × LnM)} (h : (L.map (·.1)).Nodup) (k : QK) (x : LnM) : ((dropK L k ++ [(k, x)]).map (·.1)).Nodup := by
  rw [List.map_append, List.nodup_append]
  refine ⟨(List.filter_sublist.map _).nodup h, by simp, fun a ha b hb hx => ?_⟩
  obtain ⟨p, hp, rfl⟩ := List.mem_map.1 ha
  simp at hb
  exact dropK_ne p hp (hx.trans hb)
/-- A queue more. -/
theorem Match.more {L : List (QK × LnM)} {Ms : List MoM} (h : Match L Ms) {k : QK} (hk : getK L k = none) {x : LnM} {m : MoM} (hm : m.key = k.1) (hs : Same m x) : Match (dropK L k ++ [(k, x)]) (Ms ++ [m]) := by
  refine ⟨dropK_snoc_nd h.nd k x, ?_, fun m2 hm2 k2 hk2 => ?_⟩
  · rw [dropK_none hk, List.map_append, List.map_append]
    refine h.perm.append ?_
    simp [hm]
  · by_cases hkk : k2 = k
    · subst hkk
      refine ⟨x, getK_last L _ x, ?_⟩
      rcases List.mem_append.1 hm2 with hy | hy
      · obtain ⟨x2, h1, _⟩ := h.at_ m2 hy k2 hk2
        rw [hk] at h1
        cases h1
      · rw [List.mem_singleton] at hy
        rw [hy]
        exact hs
    · rw [getK_other L k k2 x hkk]
      rcases List.mem_append.1 hm2 with hy | hy
      · exact h.at_ m2 hy k2 hk2
      · rw [List.mem_singleton] at hy
        rw [hy, hm] at hk2
        exact absurd (Subtype.ext hk2) hkk
/-- One queue's line turned. -/
theorem Match.set {L : List (QK × LnM)} {Ms : List MoM} (h : Match L Ms) {k : QK} {i : Nat} {m m' : MoM} (hi : Ms[i]? = some m) (hm : m.key = k.1) (hm' : m'.key = k.1) {x : LnM} (hs : Same m' x) : Match (dropK L k ++ [(k, x)]) (Ms.set i m') := by
  have hlt := (List.getElem?_eq_some_iff.1 hi).1
  have hkeys : (Ms.set i m').map MoM.key = Ms.map MoM.key := by
    apply List.ext_getElem?
    intro j
    rw [List.getElem?_map, List.getElem?_map, List.getElem?_set]
    by_cases hj : i = j
    · subst hj
      rw [if_pos rfl, if_pos hlt, hi]
      simp [hm, hm']
    · rw [if_neg hj]
  obtain ⟨x0, hx0, _⟩ := h.at_ m (List.mem_of_getElem? hi) k hm.symm
  refine ⟨dropK_snoc_nd h.nd k x, ?_, fun m2 hm2 k2 hk2 => ?_⟩
  · rw [hkeys]
    refine h.perm.trans ?_
    have h1 := (focus_perm h.nd hx0).map fun p : QK × LnM => p.1.1
    rw [List.map_append] at h1 ⊢
    exact h1
  · by_cases hkk : k2 = k
    · subst hkk
      refine ⟨x, getK_last L _ x, ?_⟩
      obtain ⟨j, hj, hje⟩ := List.getElem_of_mem hm2
      have hnd : ((Ms.set i m').map MoM.key).Nodup := by rw [hkeys]; exact h.keys
      have hil : i < (Ms.set i m').length := by rw [List.length_set]; exact hlt
      have e1 : ((Ms.set i m').map MoM.key)[j]'(by rw [List.length_map]; exact hj) = ((Ms.set i m').map MoM.key)[i]'(by rw [List.length_map]; exact hil) := by
        rw [List.getElem_map, List.getElem_map, hje, List.getElem_set_self, hm', hk2]
      have hij := (List.getElem_inj hnd).1 e1
      subst hij
      rw [List.getElem_set_self] at hje
      rw [← hje]
      exact hs
    · rw [getK_other L k k2 x hkk]
      rcases List.mem_or_eq_of_mem_set hm2 with hy | hy
      · exact h.at_ m2 hy k2 hk2
      · rw [hy, hm'] at hk2
        exact absurd (Subtype.ext hk2) hkk
/-- All queues trimmed. -/
theorem Match.trim {L : List (QK × LnM)} {Ms : List MoM} (h : Match L Ms) (z : Int) : Match (L.map fun p => (p.1, fT z p.2)) (Ms.map fun m => m.at_ (m.base + seekI m.es (funTrim z) (m.least - m.base))) := by
  refine ⟨by rw [List.map_map]; exact h.nd, by rw [List.map_map, List.map_map]; exact h.perm, fun m hm k hk => ?_⟩
  obtain ⟨m0, hm0, rfl⟩ := List.mem_map.1 hm
  obtain ⟨x, hx, hs⟩ := h.at_ m0 hm0 k hk
  refine ⟨fT z x, ?_, hs.base, ?_, hs.es⟩
  · unfold getK at *
    rw [List.find?_map]
    cases hf : L.find? (fun p => decide (p.1 = k)) with
    | none => rw [hf] at hx; cases hx
    | some p =>
      rw [hf] at hx
      have e : L.find? ((fun p : QK × LnM => decide (p.1 = k)) ∘ fun p => (p.1, fT z p.2)) = some p := hf
      rw [e]
      have : p.2 = x := by simpa using hx
      simp [this]
  · show tTo z x = _
    unfold tTo
    rw [hs.base, hs.least, hs.es]
    rfl
end Go.Proofs.YtmhojpipmllphaaGreatDoor

namespace Go.Proofs.YtmhojpipmllphaaGreatDoor
open Go.RowKit Go.Deep
set_option linter.unusedVariables false
set_option linter.unusedSimpArgs false

theorem QsI.chg {S : Nat → Prop} {w0 w w' : World} {qb : Nat} {mv : Option Nat} {g : Gh} {st : St} {n : Nat} {L : List (QK × LnM)} (h : QsI w0 w qb mv g st n L) (hc : Chg S w w') (hS : ∀ q, qAll qb mv L g q → ¬ S q) (hlow : ∀ q, S q → w0.heap.size ≤ q) : QsI w0 w' qb mv g st n L := by
  refine ⟨h.q.chg hc (hS _ (.inl (mem_qfoot_q ..))) (fun p hp q hq => hS q (.inl ?_)) (fun q hq => hS q (.inr hq)) hlow, h.map.keep (fun mb hm => ?_), h.lo⟩
  · unfold qfoot
    exact List.mem_cons_of_mem _ (List.mem_append_right _ (List.mem_flatMap.2 ⟨p, hp, hq⟩))
  · subst hm
    exact hc.block _ (MapIs.lt h.map) (hS mb (.inl (mem_qfoot_mv rfl)))
theorem qAll_lt {w0 w : World} {qb : Nat} {mv : Option Nat} {g : Gh} {st : St} {n : Nat} {L : List (QK × LnM)} (h : QsI w0 w qb mv g st n L) {q : Nat} (hq : qAll qb mv L g q) : w0.heap.size ≤ q ∧ q < w.heap.size := by
  rcases hq with hq | hq
  · exact ⟨h.q.low q hq, h.q.lt q hq⟩
  · exact ⟨h.q.disk.low q hq, h.q.disk.disk.lt q hq⟩
/-- Where the law finds a queue's model, and the queue's line. -/
def lnE : LnM := ⟨0, 0, 0, [], none, 0⟩
theorem match_look {L : List (QK × LnM)} {Ms : List MoM} (h : Match L Ms) (k : QK) :
    (∃ (i : Nat) (m : MoM), Ms[i]? = some m ∧ m.key = k.1 ∧ findJ (Ms.map MoM.key) k.1.1 k.1.2 = (i : Int) ∧ getK L k = some (lnD L k) ∧ Same m (lnD L k)) ∨
    (findJ (Ms.map MoM.key) k.1.1 k.1.2 = -1 ∧ getK L k = none ∧ lnD L k = lnE ∧ ∀ m ∈ Ms, m.key ≠ k.1) := by
  by_cases hx : ∃ m ∈ Ms, m.key = k.1
  · obtain ⟨m, hm, hk⟩ := hx
    obtain ⟨i, hi⟩ := List.getElem?_of_mem hm
    obtain ⟨x, h1, h2⟩ := h.at_ m hm k hk.symm
    have hd : lnD L k = x := by unfold lnD; rw [h1]; rfl
    refine .inl ⟨i, m, hi, hk, findJ_at (k := i) ?_ (fun j y hj hy hyk => ?_), by rw [hd]; exact h1, by rw [hd]; exact h2⟩
    · rw [List.getElem?_map, hi]
      show some m.key = _
      rw [hk]
    · have hn := h.keys
      obtain ⟨h3, h4⟩ := List.getElem?_eq_some_iff.1 hy
      have hil : i < (Ms.map MoM.key).length := by rw [List.length_map]; exact (List.getElem?_eq_some_iff.1 hi).1
      have h5 : (Ms.map MoM.key)[i] = k.1 := by
        have : (Ms.map MoM.key)[i]? = some k.1 := by rw [List.getElem?_map, hi]; show some m.key = _; rw [hk]
        exact (List.getElem?_eq_some_iff.1 this).2
      have h6 : y = k.1 := Prod.ext hyk.1 hyk.2
      have := (List.getElem_inj hn).1 (h4.trans (h6.trans h5.symm))
      omega
  · have hno : ∀ m ∈ Ms, m.key ≠ k.1 := fun m hm hk => hx ⟨m, hm, hk⟩
    have hg := match_none h hno
    refine .inr ⟨findJ_none (fun i y hi hy hyk => ?_), hg, by unfold lnD; rw [hg]; rfl, hno⟩
    obtain ⟨m, hm, rfl⟩ := List.mem_map.1 (List.mem_of_getElem? hy)
    exact hno m hm (Prod.ext hyk.1 hyk.2)
/-- Between two calls: the queues, and the law's models, apart. -/
structure PlI (w0 w : World) (qb n lo : Nat) (v : Value) (Ms : List MoM) : Prop where
  ex : ∃ mv g st L, QsI w0 w qb mv g st (2 * n) L ∧ Match L Ms ∧ Sep (qAll qb mv L g) v Ms ∧ L.length ≤ n ∧ st.size ≤ 20 * n ∧ st.cap = 1048576
  mod : ModI w lo v Ms
  low : w0.heap.size ≤ lo
  up : lo ≤ w.heap.size
theorem PlI.new {w0 w w' : World} {qb n lo : Nat} {v : Value} {Ms : List MoM} (h : PlI w0 w qb n lo v Ms) (hc : Chg (fun _ => False) w w') : PlI w0 w' qb n lo v Ms := by
  obtain ⟨mv, g, st, L, h1, h2, h3, h4, h5, h6⟩ := h.ex
  exact ⟨⟨mv, g, st, L, h1.new hc, h2, h3, h4, h5, h6⟩, h.mod.new hc, h.low, Nat.le_trans h.up hc.size⟩
theorem qsI_more {w0 w : World} {qb : Nat} {mv : Option Nat} {g : Gh} {st : St} {n n' : Nat} {L : List (QK × LnM)} (h : QsI w0 w qb mv g st n L) (hn : n ≤ n') : QsI w0 w qb mv g st n' L := by
  refine ⟨{ h.q with calm := h.q.calm.more hn, ln := fun p hp => ?_ }, h.map, h.lo⟩
  have hl := h.q.ln p hp
  refine { hl with el := Nat.le_trans hl.el hn, row := fun r hr => ?_ }
  obtain ⟨m, i0, j, h2⟩ := hl.row r hr
  exact ⟨m, i0, j, { h2 with rc := h2.rc.more hn }⟩
theorem PlI.more {w0 w : World} {qb n lo : Nat} {v : Value} {Ms : List MoM} (h : PlI w0 w qb n lo v Ms) : PlI w0 w qb (n + 1) lo v Ms := by
  obtain ⟨mv, g, st, L, h1, h2, h3, h4, h5, h6⟩ := h.ex
  exact ⟨⟨mv, g, st, L, qsI_more h1 (by omega), h2, h3, by omega, by omega, h6⟩, h.mod, h.low, h.up⟩
theorem PlI.chg {w0 w : World} {qb n lo : Nat} {v : Value} {Ms : List MoM} (h : PlI w0 w qb n lo v Ms) : Chg (fun _ => False) w0 w := by
  obtain ⟨mv, g, st, L, h1, _⟩ := h.ex
  exact h1.q.disk.chg
/-- A queue's line as the law's models tell it: base, least, entries. -/
def MoM.line (m : MoM) : Nat × Nat × List PlM := (m.base, m.least, m.es)
def lnQ (Ms : List MoM) (k : QK) : Nat × Nat × List PlM := ((Ms.find? fun m => decide (m.key = k.1)).map MoM.line).getD (0, 0, [])
theorem lnQ_eq {L : List (QK × LnM)} {Ms : List MoM} (h : Match L Ms) (k : QK) : lnQ Ms k = ((lnD L k).base, (lnD L k).least, (lnD L k).es) := by
  unfold lnQ
  cases hf : Ms.find? (fun m => decide (m.key = k.1)) with
  | none =>
    have hno : ∀ m ∈ Ms, m.key ≠ k.1 := fun m hm => by
      have := List.find?_eq_none.1 hf m hm
      simpa using this
    have hd : lnD L k = lnE := by unfold lnD; rw [match_none h hno]; rfl
    rw [hd]
    rfl
  | some m =>
    have hm := List.mem_of_find?_eq_some hf
    have hk : m.key = k.1 := by have := List.find?_some hf; simpa using this
    obtain ⟨x, h1, h2⟩ := h.at_ m hm k hk.symm
    have hd : lnD L k = x := by unfold lnD; rw [h1]; rfl
    rw [hd, h2.base, h2.least, h2.es]
    rfl
/-- Least, Next, Seek and At, told by the models. -/
theorem PlI.least {w0 w W : World} {qb n lo : Nat} {v : Value} {Ms : List MoM} (h : PlI w0 w qb n lo v Ms) (hn : n ≤ 1000) (hc : Chg (fun _ => False) w W) (k : QK) :
    Calls Tryz.prog 17 #[.pointer (some ⟨qb, 0, none⟩), .string k.1.1, .int .i64 k.1.2] W fun e w' => e = .returned (.int .i64 (((lnQ Ms k).2.1 : Nat) : Int)) ∧ Below W.heap.size W w' := by
  obtain ⟨mv, g, st, L, h1, h2, _⟩ := h.ex
  rw [lnQ_eq h2]
  exact qleast_any (h1.new hc) (by omega) k
theorem PlI.next {w0 w W : World} {qb n lo : Nat} {v : Value} {Ms : List MoM} (h : PlI w0 w qb n lo v Ms) (hn : n ≤ 1000) (hc : Chg (fun _ => False) w W) (k : QK) :
    Calls Tryz.prog 18 #[.pointer (some ⟨qb, 0, none⟩), .string k.1.1, .int .i64 k.1.2] W fun e w' => e = .returned (.int .i64 (((lnQ Ms k).1 + (lnQ Ms k).2.2.length : Nat) : Int)) ∧ Below W.heap.size W w' := by
  obtain ⟨mv, g, st, L, h1, h2, _⟩ := h.ex
  rw [lnQ_eq h2]
  exact qnextq_any (h1.new hc) (by omega) k
theorem PlI.seek {w0 w W : World} {qb n lo : Nat} {v : Value} {Ms : List MoM} (h : PlI w0 w qb n lo v Ms) (hn : n ≤ 1000) (hc : Chg (fun _ => False) w W) (k : QK) (z : Int) :
    Calls Tryz.prog 13 #[.pointer (some ⟨qb, 0, none⟩), .string k.1.1, .int .i64 k.1.2, .int .i64 z] W fun e w' => e = .returned (.int .i64 (((lnQ Ms k).1 + seekI (lnQ Ms k).2.2 (funSeek z) ((lnQ Ms k).2.1 - (lnQ Ms k).1) : Nat) : Int)) ∧ Below W.heap.size W w' := by
  obtain ⟨mv, g, st, L, h1, h2, _⟩ := h.ex
  rw [lnQ_eq h2]
  exact qseek_any (h1.new hc) (by omega) k z
/-- What At answers. -/
def atE (x : Nat × Nat × List PlM) (a : Int) : PlM × Int := if 0 ≤ a ∧ a < (x.2.1 : Int) then (zeroP, 14) else if a < 0 ∨ ((x.1 + x.2.2.length : Nat) : Int) ≤ a then (zeroP, 2) else (x.2.2.getD (a.toNat - x.1) zeroP, 0)
theorem lnD_wf {w0 w : World} {qb : Nat} {mv : Option Nat} {g : Gh} {st : St} {n : Nat} {L : List (QK × LnM)} (h : QsI w0 w qb mv g st n L) (k : QK) : (lnD L k).base ≤ (lnD L k).least ∧ (lnD L k).least ≤ (lnD L k).base + (lnD L k).es.length := by
  unfold lnD
  cases hg : getK L k with
  | none => exact ⟨Nat.le_refl _, Nat.zero_le _⟩
  | some x =>
    have := h.q.ln _ (getK_mem hg)
    exact ⟨this.le, this.lt⟩
theorem PlI.at_ {w0 w W : World} {qb n lo : Nat} {v : Value} {Ms : List MoM} (h : PlI w0 w qb n lo v Ms) (hn : n ≤ 1000) (hc : Chg (fun _ => False) w W) (k : QK) (a : Int) :
    Calls Tryz.prog 12 #[.pointer (some ⟨qb, 0, none⟩), .string k.1.1, .int .i64 k.1.2, .int .i64 a] W (AtTo (atE (lnQ Ms k) a).1 (atE (lnQ Ms k) a).2 W) := by
  obtain ⟨mv, g, st, L, h1, h2, _⟩ := h.ex
  obtain ⟨hw1, hw2⟩ := lnD_wf h1 k
  rw [lnQ_eq h2]
  unfold atE
  dsimp only
  by_cases c1 : 0 ≤ a ∧ a < ((lnD L k).least : Int)
  · rw [if_pos c1]
    exact qat_trim (h1.new hc) (by omega) k a c1.1 c1.2
  · rw [if_neg c1]
    by_cases c2 : a < 0
    · rw [if_pos (.inl c2)]
      exact qat_low (h1.new hc) (by omega) k a c2
    · by_cases c3 : (((lnD L k).base + (lnD L k).es.length : Nat) : Int) ≤ a
      · rw [if_pos (.inr c3)]
        exact qat_high (h1.new hc) (by omega) k a (by omega) (by omega) c3
      · rw [if_neg (by omega)]
        have hi : a.toNat - (lnD L k).base < (lnD L k).es.length := by omega
        have := qat_ok (h1.new hc) (by omega) k a.toNat (a.toNat - (lnD L k).base) ((lnD L k).es[a.toNat - (lnD L k).base]) (by omega) (List.getElem?_eq_getElem hi) (by omega)
        rw [show ((a.toNat : Nat) : Int) = a by omega] at this
        rw [List.getD_eq_getElem?_getD, List.getElem?_eq_getElem hi]
        exact this
theorem PlI.all {w0 w W : World} {qb n lo : Nat} {v : Value} {Ms : List MoM} (h : PlI w0 w qb n lo v Ms) (hn : n ≤ 1000) (hc : Chg (fun _ => False) w W) :
    Calls Tryz.prog 16 #[.pointer (some ⟨qb, 0, none⟩)] W fun e w' => ∃ u l, e = .returned u ∧ (l.map Subtype.val).Perm (Ms.map MoM.key) ∧ QSorted l ∧ w'.ownsRow W.heap.size 52 4 u l.length (l.flatMap fun k => [.string k.1.1, .int .i64 k.1.2, .int .i64 (((lnQ Ms k).2.1 : Nat) : Int), .int .i64 (((lnQ Ms k).1 + (lnQ Ms k).2.2.length : Nat) : Int)]) ∧ Below W.heap.size W w' := by
  obtain ⟨mv, g, st, L, h1, h2, _, h4, _⟩ := h.ex
  refine (qall_any (h1.new hc) (by omega) (by omega)).mono ?_
  rintro e w' ⟨u, l, rfl, hp, hs, ho, hb⟩
  refine ⟨u, l, rfl, ?_, hs, ?_, hb⟩
  · have h5 := hp.map Subtype.val
    rw [List.map_map] at h5
    exact h5.trans h2.perm.symm
  · have e : (l.flatMap (aenc L)) = l.flatMap fun k => [.string k.1.1, .int .i64 k.1.2, .int .i64 (((lnQ Ms k).2.1 : Nat) : Int), .int .i64 (((lnQ Ms k).1 + (lnQ Ms k).2.2.length : Nat) : Int)] := by
      congr 1
      funext k
      unfold aenc
      rw [lnQ_eq h2]
    rw [← e]
    exact ho
end Go.Proofs.YtmhojpipmllphaaGreatDoor

namespace Go.Proofs.YtmhojpipmllphaaGreatDoor
open Go.RowKit Go.Deep
set_option linter.unusedVariables false
set_option linter.unusedSimpArgs false

/-- Behind a call on one queue (its line is x now), ahead of what the law does to its models: Ms0 they were, Ms they are. -/
structure MidI (w0 w : World) (qb n lo : Nat) (v : Value) (Ms0 Ms : List MoM) (k : QK) (b ls : Nat) (es : List PlM) : Prop where
  ex : ∃ mv g st L x, QsI w0 w qb mv g st (2 * n + 2) (dropK L k ++ [(k, x)]) ∧ Match L Ms0 ∧ Sep (qAll qb mv (dropK L k ++ [(k, x)]) g) v Ms ∧ x.base = b ∧ x.least = ls ∧ x.es = es ∧ L.length ≤ n ∧ st.size ≤ 20 * n + 20 ∧ st.cap = 1048576
  mod : ModI w lo v Ms
  low : w0.heap.size ≤ lo
  up : lo ≤ w.heap.size
theorem MidI.new {w0 w w' : World} {qb n lo : Nat} {v : Value} {Ms0 Ms : List MoM} {k : QK} {b ls : Nat} {es : List PlM} (h : MidI w0 w qb n lo v Ms0 Ms k b ls es) (hc : Chg (fun _ => False) w w') : MidI w0 w' qb n lo v Ms0 Ms k b ls es := by
  obtain ⟨mv, g, st, L, x, h1, h2⟩ := h.ex
  exact ⟨⟨mv, g, st, L, x, h1.new hc, h2⟩, h.mod.new hc, h.low, Nat.le_trans h.up hc.size⟩
theorem dropK_len_le (L : List (QK × LnM)) (k : QK) : (dropK L k).length ≤ L.length := List.length_filter_le _ _
theorem PlI.add_ {w0 w W : World} {qb n lo : Nat} {v : Value} {Ms : List MoM} (h : PlI w0 w qb n lo v Ms) (hn : n ≤ 400) (hc : Chg (fun _ => False) w W) (k : QK) (ht : topicB k.1.1 = true) (hq : 0 ≤ k.1.2 ∧ k.1.2 ≤ 2) (p : PlM) (hp : p.fit = true) :
    Calls Tryz.prog 9 #[.pointer (some ⟨qb, 0, none⟩), .string k.1.1, .int .i64 k.1.2, p.val] W fun e w' => e = .returned (.tuple #[.int .i64 (((lnQ Ms k).1 + (lnQ Ms k).2.2.length : Nat) : Int), .int .i64 0]) ∧
      MidI w0 w' qb n lo v Ms Ms k (lnQ Ms k).1 (lnQ Ms k).2.1 ((lnQ Ms k).2.2 ++ [p]) ∧ Chg (fun q => q < w.heap.size) W w' := by
  obtain ⟨mv, g, st, L, h1, h2, h3, h4, h5, h6⟩ := h.ex
  have hqn : k.1.2 = ((k.1.2.toNat : Nat) : Int) := by omega
  have := qadd_any (h1.new hc) (by omega) (by omega) k k.1.1 k.1.2.toNat rfl hqn ht (by omega) p hp (by omega)
  rw [← hqn] at this
  rw [lnQ_eq h2]
  refine this.mono ?_
  rintro e w' ⟨x', mv', g', st', rfl, a1, a2, a3, a4, a5, a6, a7, a8, a9, a10⟩
  obtain ⟨m1, m2⟩ := (h.mod.new hc).call h3 a2
  refine ⟨rfl, ⟨⟨mv', g', st', L, x', a1, h2, m2, a5, a6, a7, h4, by omega, by omega⟩, m1, h.low, Nat.le_trans h.up (Nat.le_trans hc.size a2.chg.size)⟩, a2.chg.wide (fun q hq hx => (qAll_lt h1 hx).2)⟩
theorem PlI.base_ {w0 w W : World} {qb n lo : Nat} {v : Value} {Ms : List MoM} (h : PlI w0 w qb n lo v Ms) (hn : n ≤ 400) (hc : Chg (fun _ => False) w W) (k : QK) (ht : topicB k.1.1 = true) (hq : 0 ≤ k.1.2 ∧ k.1.2 ≤ 2) (a : Int) (ha : 0 ≤ a ∧ a ≤ 1099511627776) (hno : ∀ m ∈ Ms, m.key ≠ k.1) :
    Calls Tryz.prog 11 #[.pointer (some ⟨qb, 0, none⟩), .string k.1.1, .int .i64 k.1.2, .int .i64 a] W fun e w' => e = .returned (.int .i64 0) ∧
      MidI w0 w' qb n lo v Ms Ms k a.toNat a.toNat [] ∧ Chg (fun q => q < w.heap.size) W w' := by
  obtain ⟨mv, g, st, L, h1, h2, h3, h4, h5, h6⟩ := h.ex
  have hqn : k.1.2 = ((k.1.2.toNat : Nat) : Int) := by omega
  have := qbase_any (h1.new hc) (by omega) k k.1.1 k.1.2.toNat rfl hqn ht (by omega) a.toNat (by omega) (match_none h2 hno)
  rw [← hqn, show ((a.toNat : Nat) : Int) = a by omega] at this
  refine this.mono ?_
  rintro e w' ⟨lb, mv', rfl, a1, a2⟩
  obtain ⟨m1, m2⟩ := (h.mod.new hc).call h3 a2
  refine ⟨rfl, ⟨⟨mv', g, st, L, _, qsI_more a1 (by omega), h2, m2, rfl, rfl, rfl, h4, by omega, h6⟩, m1, h.low, Nat.le_trans h.up (Nat.le_trans hc.size a2.chg.size)⟩, a2.chg.wide (fun q hq hx => (qAll_lt h1 hx).2)⟩
theorem PlI.base_there {w0 w W : World} {qb n lo : Nat} {v : Value} {Ms : List MoM} (h : PlI w0 w qb n lo v Ms) (hc : Chg (fun _ => False) w W) (k : QK) (ht : topicB k.1.1 = true) (hq : 0 ≤ k.1.2 ∧ k.1.2 ≤ 2) (a : Int) (ha : 0 ≤ a ∧ a ≤ 1099511627776) {m : MoM} (hm : m ∈ Ms) (hk : m.key = k.1) :
    Calls Tryz.prog 11 #[.pointer (some ⟨qb, 0, none⟩), .string k.1.1, .int .i64 k.1.2, .int .i64 a] W fun e w' => e = .returned (.int .i64 10) ∧ Below W.heap.size W w' := by
  obtain ⟨mv, g, st, L, h1, h2, h3, h4, h5, h6⟩ := h.ex
  have hqn : k.1.2 = ((k.1.2.toNat : Nat) : Int) := by omega
  obtain ⟨x, hx, _⟩ := h2.at_ m hm k hk.symm
  have := qbase_there (h1.new hc) k k.1.1 k.1.2.toNat rfl hqn ht (by omega) a.toNat (by omega) (by rw [hx]; rfl)
  rw [← hqn, show ((a.toNat : Nat) : Int) = a by omega] at this
  exact this
/-- The law's writes to its own blocks leave the queues alone. -/
theorem sep_chg {w0 w w' : World} {S : Nat → Prop} {qb : Nat} {mv : Option Nat} {g : Gh} {st : St} {n : Nat} {L : List (QK × LnM)} {v : Value} {Ms : List MoM} (h : QsI w0 w qb mv g st n L) (hs : Sep (qAll qb mv L g) v Ms) {lo : Nat} (hm : ModI w lo v Ms) (hl : w0.heap.size ≤ lo) (hc : Chg S w w') (hS : ∀ q, S q → modF v Ms q) : QsI w0 w' qb mv g st n L :=
  h.chg hc (fun q hq hx => hs q (hS q hx) hq) (fun q hx => Nat.le_trans hl (hm.lt (hS q hx)).1)
/-- The queue's model was there: its entries are set. -/
theorem MidI.there {w0 w W w' : World} {qb n lo b0 cap len : Nat} {Ms : List MoM} {k : QK} {b ls : Nat} {es : List PlM} (h : MidI w0 w qb n lo (.slice (some ⟨b0, 0, none⟩) len cap) Ms Ms k b ls es) {i : Nat} {m : MoM} (hi : Ms[i]? = some m) (hk : m.key = k.1) (hb : m.base = b) (hls : m.least = ls)
    (hc : Chg (fun _ => False) w W) {vv : Value} (hes : EsAt W lo vv es) (hnew : ∀ q, vv.ownBlock = some q → w.heap.size ≤ q) (ho : OneC W w' b0 (i * 5 + 4) vv) :
    PlI w0 w' qb (n + 1) lo (.slice (some ⟨b0, 0, none⟩) len cap) (Ms.set i (m.of vv es)) := by
  obtain ⟨mv, g, st, L, x, h1, h2, h3, h4, h5, h6, h7, h8, h9⟩ := h.ex
  have hmod := h.mod.new hc
  have hq := h1.new hc
  have hvo : (Value.slice (some ⟨b0, 0, none⟩) len cap).ownBlock = some b0 := rfl
  have hb0 := h.mod.lt (q := b0) (.inl rfl)
  refine ⟨⟨mv, g, st, _, qsI_more (sep_chg hq h3 hmod h.low ho.chg (fun q hx => .inl (by rw [hvo, hx]))) (by omega), h2.set hi hk (show (m.of vv es).key = k.1 from hk) ⟨by rw [h4, ← hb]; rfl, by rw [h5, ← hls]; rfl, by rw [h6]; rfl⟩, fun q hx hq2 => ?_, ?_, by omega, h9⟩, hmod.entry hi ho hes (fun q hq2 => by have := hnew q hq2; omega), h.low, ?_⟩
  · rcases hx with hx | ⟨m2, hm2, hx⟩
    · exact h3 q (.inl hx) hq2
    · rcases List.mem_or_eq_of_mem_set hm2 with h10 | h10
      · exact h3 q (.inr ⟨m2, h10, hx⟩) hq2
      · rw [h10] at hx
        have h11 := hnew q hx
        have := (qAll_lt h1 hq2).2
        omega
  · rw [List.length_append, List.length_singleton]
    have := dropK_len_le L k
    omega
  · have := hc.size
    have := ho.chg.size
    have := h.up
    omega
/-- A model more, behind the call. -/
theorem MidI.more {w0 w W w' : World} {qb n lo : Nat} {v v' : Value} {Ms : List MoM} {k : QK} {b ls : Nat} {es : List PlM} (h : MidI w0 w qb n lo v Ms Ms k b ls es) (hc : Chg (fun _ => False) w W) {m : MoM} (hsl : m.sl = .slice none 0 0) (hme : m.es = [])
    (ho : w'.ownsRow lo 39 5 v' (Ms.length + 1) (Ms.flatMap MoM.cells ++ m.cells)) (hg : W.grownBy w' v.ownBlock) (hv : ∀ q, v'.ownBlock = some q → v.ownBlock = some q ∨ W.heap.size ≤ q) : MidI w0 w' qb n lo v' Ms (Ms ++ [m]) k b ls es := by
  obtain ⟨mv, g, st, L, x, h1, h2, h3, h4⟩ := h.ex
  have hmod := h.mod.new hc
  have hq := h1.new hc
  have hcg : Chg (fun q => v.ownBlock = some q) W w' := Chg.of_grown hg (fun q hx _ => hx)
  refine ⟨⟨mv, g, st, L, x, sep_chg hq h3 hmod h.low hcg (fun q hx => .inl hx), h2, fun q hx hq2 => ?_, h4⟩, hmod.more ho hg hv ?_ ?_, h.low, ?_⟩
  · have hql := (qAll_lt h1 hq2).2
    have := hc.size
    rcases hx with hx | ⟨m2, hm2, hx⟩
    · rcases hv q hx with h10 | h10
      · exact h3 q (.inl h10) hq2
      · omega
    · rcases List.mem_append.1 hm2 with h10 | h10
      · exact h3 q (.inr ⟨m2, h10, hx⟩) hq2
      · rw [List.mem_singleton.1 h10, hsl] at hx
        cases hx
  · rw [hsl, hme]
    exact World.ownsRow_nil _ _ _ _
  · intro q hq2
    rw [hsl] at hq2
    cases hq2
  · have := hc.size
    have := hg.size
    have := h.up
    omega
/-- The new model is the queue's. -/
theorem MidI.born {w0 w : World} {qb n lo : Nat} {v : Value} {Ms : List MoM} {k : QK} {b ls : Nat} {es : List PlM} {m : MoM} (h : MidI w0 w qb n lo v Ms (Ms ++ [m]) k b ls es) (hno : ∀ m ∈ Ms, m.key ≠ k.1) (hk : m.key = k.1) (hb : m.base = b) (hls : m.least = ls) (hes : m.es = es) : PlI w0 w qb (n + 1) lo v (Ms ++ [m]) := by
  obtain ⟨mv, g, st, L, x, h1, h2, h3, h4, h5, h6, h7, h8, h9⟩ := h.ex
  refine ⟨⟨mv, g, st, _, qsI_more h1 (by omega), h2.more (match_none h2 hno) hk ⟨by rw [h4, hb], by rw [h5, hls], by rw [h6, hes]⟩, h3, ?_, by omega, h9⟩, h.mod, h.low, h.up⟩
  rw [List.length_append, List.length_singleton]
  have := dropK_len_le L k
  omega
/-- The new model's entries are set. -/
theorem MidI.fresh {w0 w W w' : World} {qb n lo b0 cap len : Nat} {Ms : List MoM} {k : QK} {b ls : Nat} {es : List PlM} {m : MoM} (h : MidI w0 w qb n lo (.slice (some ⟨b0, 0, none⟩) len cap) Ms (Ms ++ [m]) k b ls es) (hno : ∀ m ∈ Ms, m.key ≠ k.1) (hk : m.key = k.1) (hb : m.base = b) (hls : m.least = ls)
    (hc : Chg (fun _ => False) w W) {vv : Value} (hes : EsAt W lo vv es) (hnew : ∀ q, vv.ownBlock = some q → w.heap.size ≤ q) (ho : OneC W w' b0 (Ms.length * 5 + 4) vv) :
    PlI w0 w' qb (n + 1) lo (.slice (some ⟨b0, 0, none⟩) len cap) (Ms ++ [m.of vv es]) := by
  obtain ⟨mv, g, st, L, x, h1, h2, h3, h4, h5, h6, h7, h8, h9⟩ := h.ex
  have hmod := h.mod.new hc
  have hq := h1.new hc
  have hvo : (Value.slice (some ⟨b0, 0, none⟩) len cap).ownBlock = some b0 := rfl
  have hb0 := h.mod.lt (q := b0) (.inl rfl)
  have hi : (Ms ++ [m])[Ms.length]? = some m := by simp
  have he := hmod.entry hi ho hes (fun q hq2 => by have := hnew q hq2; omega)
  have hset : (Ms ++ [m]).set Ms.length (m.of vv es) = Ms ++ [m.of vv es] := by simp
  rw [hset] at he
  refine ⟨⟨mv, g, st, _, qsI_more (sep_chg hq h3 hmod h.low ho.chg (fun q hx => .inl (by rw [hvo, hx]))) (by omega), h2.more (match_none h2 hno) (show (m.of vv es).key = k.1 from hk) ⟨by rw [h4, ← hb]; rfl, by rw [h5, ← hls]; rfl, by rw [h6]; rfl⟩, fun q hx hq2 => ?_, ?_, by omega, h9⟩, he, h.low, ?_⟩
  · rcases hx with hx | ⟨m2, hm2, hx⟩
    · exact h3 q (.inl hx) hq2
    · rcases List.mem_append.1 hm2 with h10 | h10
      · exact h3 q (.inr ⟨m2, List.mem_append_left _ h10, hx⟩) hq2
      · rw [List.mem_singleton.1 h10] at hx
        have h11 := hnew q hx
        have := (qAll_lt h1 hq2).2
        omega
  · rw [List.length_append, List.length_singleton]
    have := dropK_len_le L k
    omega
  · have := hc.size
    have := ho.chg.size
    have := h.up
    omega
end Go.Proofs.YtmhojpipmllphaaGreatDoor

namespace Go.Proofs.YtmhojpipmllphaaGreatDoor
open Go.RowKit Go.Deep
set_option linter.unusedVariables false
set_option linter.unusedSimpArgs false

def trM (z : Int) (m : MoM) : MoM := m.at_ (m.base + seekI m.es (funTrim z) (m.least - m.base))
def trJ (z : Int) (j : Nat) (Ms : List MoM) : List MoM := (Ms.take j).map (trM z) ++ Ms.drop j
theorem trJ_len (z : Int) (j : Nat) (Ms : List MoM) : (trJ z j Ms).length = Ms.length := by
  unfold trJ
  rw [List.length_append, List.length_map, List.length_take, List.length_drop]
  omega
theorem trJ_at (z : Int) {j : Nat} {Ms : List MoM} {m : MoM} (h : Ms[j]? = some m) : (trJ z j Ms)[j]? = some m := by
  have hl := (List.getElem?_eq_some_iff.1 h).1
  unfold trJ
  rw [List.getElem?_append_right (by rw [List.length_map, List.length_take]; omega), List.length_map, List.length_take, show min j Ms.length = j by omega, Nat.sub_self, List.getElem?_drop]
  exact h
theorem trJ_set (z : Int) {j : Nat} {Ms : List MoM} {m : MoM} (h : Ms[j]? = some m) : (trJ z j Ms).set j (trM z m) = trJ z (j + 1) Ms := by
  have hl := (List.getElem?_eq_some_iff.1 h).1
  unfold trJ
  rw [List.set_append_right _ _ (by rw [List.length_map, List.length_take]; omega), List.length_map, List.length_take, show min j Ms.length = j by omega, Nat.sub_self, List.take_add_one, h, List.drop_eq_getElem_cons hl, List.set_cons_zero]
  simp
theorem trJ_none (z : Int) (Ms : List MoM) : trJ z 0 Ms = Ms := by unfold trJ; simp
theorem trJ_all (z : Int) (Ms : List MoM) : trJ z Ms.length Ms = Ms.map (trM z) := by unfold trJ; simp
structure MtI (w0 w : World) (qb n lo : Nat) (v : Value) (Ms : List MoM) (z : Int) (j : Nat) : Prop where
  ex : ∃ mv g st L, QsI w0 w qb mv g st (2 * n) (L.map fun p => (p.1, fT z p.2)) ∧ Match L Ms ∧ Sep (qAll qb mv (L.map fun p => (p.1, fT z p.2)) g) v (trJ z j Ms) ∧ L.length ≤ n ∧ st.size ≤ 20 * n ∧ st.cap = 1048576
  mod : ModI w lo v (trJ z j Ms)
  low : w0.heap.size ≤ lo
  up : lo ≤ w.heap.size
  wf : ∀ m ∈ Ms, m.base ≤ m.least ∧ m.least ≤ m.base + m.es.length ∧ m.base ≤ 1099511627776 ∧ m.es.length ≤ 2 * n
theorem MtI.new {w0 w w' : World} {qb n lo : Nat} {v : Value} {Ms : List MoM} {z : Int} {j : Nat} (h : MtI w0 w qb n lo v Ms z j) (hc : Chg (fun _ => False) w w') : MtI w0 w' qb n lo v Ms z j := by
  obtain ⟨mv, g, st, L, h1, h2⟩ := h.ex
  exact ⟨⟨mv, g, st, L, h1.new hc, h2⟩, h.mod.new hc, h.low, Nat.le_trans h.up hc.size, h.wf⟩
theorem PlI.wf {w0 w : World} {qb n lo : Nat} {v : Value} {Ms : List MoM} (h : PlI w0 w qb n lo v Ms) : ∀ m ∈ Ms, m.base ≤ m.least ∧ m.least ≤ m.base + m.es.length ∧ m.base ≤ 1099511627776 ∧ m.es.length ≤ 2 * n := fun m hm => by
  obtain ⟨mv, g, st, L, h1, h2, _⟩ := h.ex
  have hk : m.key ∈ L.map fun p => p.1.1 := h2.perm.mem_iff.1 (List.mem_map.2 ⟨m, hm, rfl⟩)
  obtain ⟨p, hp, hpk⟩ := List.mem_map.1 hk
  obtain ⟨x, hx, hs⟩ := h2.at_ m hm p.1 hpk
  have hl := h1.q.ln _ (getK_mem hx)
  have h3 := hl.le
  have h4 := hl.lt
  have h5 := hl.bb
  have h6 := hl.el
  dsimp only at h3 h4 h5 h6
  rw [hs.base] at h3 h4 h5
  rw [hs.least] at h3 h4
  rw [hs.es] at h4 h6
  exact ⟨h3, h4, h5, h6⟩
theorem PlI.trim_ {w0 w W : World} {qb n lo : Nat} {v : Value} {Ms : List MoM} (h : PlI w0 w qb n lo v Ms) (hn : n ≤ 400) (hc : Chg (fun _ => False) w W) (z : Int) :
    Calls Tryz.prog 14 #[.pointer (some ⟨qb, 0, none⟩), .int .i64 z] W fun e w' => e = .returned (.int .i64 0) ∧ MtI w0 w' qb n lo v Ms z 0 ∧ Chg (fun q => q < w.heap.size) W w' := by
  have hwf := h.wf
  obtain ⟨mv, g, st, L, h1, h2, h3, h4, h5, h6⟩ := h.ex
  refine (qtrim_any (h1.new hc) (by omega) (by omega) z).mono ?_
  rintro e w' ⟨rfl, g', st', a1, a2, _, a3, a4, _⟩
  obtain ⟨m1, m2⟩ := (h.mod.new hc).call h3 a2
  exact ⟨rfl, ⟨⟨mv, g', st', L, a1, h2, by rw [trJ_none]; exact m2, h4, by omega, by omega⟩, by rw [trJ_none]; exact m1, h.low, Nat.le_trans h.up (Nat.le_trans hc.size a2.chg.size), hwf⟩, a2.chg.wide (fun q hq hx => (qAll_lt h1 hx).2)⟩
/-- One model is trimmed. -/
theorem MtI.call {w0 w W : World} {qb n lo len cap : Nat} {p0 : Option Addr} {Ms : List MoM} {z : Int} {j : Nat} (h : MtI w0 w qb n lo (.slice p0 len cap) Ms z j) (hn : n ≤ 400) (hc : Chg (fun _ => False) w W) (hj : j < Ms.length) :
    ∃ b, p0 = some ⟨b, 0, none⟩ ∧ len = Ms.length ∧ Calls Tryz.prog 15 #[.pointer (some ⟨b, j * 5, none⟩), .int .i64 z] W fun e w' => e = .returned (.tuple #[]) ∧ MtI w0 w' qb n lo (.slice p0 len cap) Ms z (j + 1) ∧ Chg (fun q => q = b) W w' := by
  have hmod := h.mod.new hc
  obtain ⟨p, cap', hv, hat⟩ := hmod.find
  cases hv
  obtain ⟨m, hm⟩ : ∃ m, Ms[j]? = some m := ⟨_, List.getElem?_eq_getElem hj⟩
  obtain ⟨b, rfl, hlo, hb, hfz, hcs⟩ := hat j m (trJ_at z hm)
  obtain ⟨f1, f2, f3, f4⟩ := h.wf m (List.mem_of_getElem? hm)
  have hme : m ∈ trJ z j Ms := List.mem_of_getElem? (trJ_at z hm)
  have hap : m.sl.ownBlock ≠ some b := fun hx => hmod.apart m hme b hx rfl
  obtain ⟨pe, ce, hse, hpl, _⟩ := (hmod.es m hme).plc hap
  refine ⟨b, rfl, trJ_len z j Ms, ?_⟩
  have hT := modtrim_any b (j * 5) m.base m.least m.es.length ce pe m.es z W rfl (by omega) f3 f1 f2 (hcs 2 (by decide)) (hcs 3 (by decide)) (by rw [hcs 4 (by decide)]; show some m.sl = _; rw [hse]) hfz hpl
  refine hT.mono ?_
  rintro e w' ⟨rfl, ho⟩
  refine ⟨rfl, ?_, ho.chg⟩
  have hset := hmod.trim (trJ_at z hm) (m.base + seekI m.es (funTrim z) (m.least - m.base)) ho
  rw [show m.at_ (m.base + seekI m.es (funTrim z) (m.least - m.base)) = trM z m from rfl, trJ_set z hm] at hset
  obtain ⟨mv, g, st, L, h1, h2, h3, h4, h5, h6⟩ := h.ex
  have hq := h1.new hc
  refine ⟨⟨mv, g, st, L, sep_chg hq h3 hmod h.low ho.chg (fun q hx => .inl (by rw [hx]; rfl)), h2, fun q hx hq2 => ?_, h4, h5, h6⟩, hset, h.low, ?_, h.wf⟩
  · rcases hx with hx | ⟨m2, hm2, hx⟩
    · exact h3 q (.inl hx) hq2
    · rw [← trJ_set z hm] at hm2
      rcases List.mem_or_eq_of_mem_set hm2 with h10 | h10
      · exact h3 q (.inr ⟨m2, h10, hx⟩) hq2
      · rw [h10] at hx
        exact h3 q (.inr ⟨m, hme, hx⟩) hq2
  · have := hc.size
    have := ho.chg.size
    have := h.up
    omega
theorem MtI.done {w0 w : World} {qb n lo : Nat} {v : Value} {Ms : List MoM} {z : Int} (h : MtI w0 w qb n lo v Ms z Ms.length) : PlI w0 w qb (n + 1) lo v (Ms.map (trM z)) := by
  obtain ⟨mv, g, st, L, h1, h2, h3, h4, h5, h6⟩ := h.ex
  have hm := h.mod
  rw [trJ_all] at h3 hm
  exact ⟨⟨mv, g, st, _, qsI_more h1 (by omega), h2.trim z, h3, by rw [List.length_map]; omega, by omega, h6⟩, hm, h.low, h.up⟩
end Go.Proofs.YtmhojpipmllphaaGreatDoor

