/-
  Part 40: what the statement needs of these texts: TMsgs, TIdsB.
-/
import Derived.BigQuiet
import Derived.BigRegion
import Derived.ChangeSame
import Derived.Deep.DeepCutAuto
import Derived.Deep.DeepMust
import Derived.Deep.Grids
import Derived.Deep.OwnRows
import Derived.Deep.QuietTactic
import Derived.Deep.RegionHeld3
import Derived.Deep.RegionLaw
import Derived.Deep.RegionWith
import Derived.Defers
import Derived.IntWalk
import Derived.Laws.BitsAllLaws
import Derived.Laws.CopyOwn
import Derived.Laws.OwnMore
import Derived.Laws.PanicsMore
import Derived.Laws.RangeAny
import Derived.Laws.Rows
import Derived.Laws.StructEq
import Derived.Lib.AppendStr
import Derived.Lib.AppendZerosOnto
import Derived.Lib.Atoi
import Derived.Lib.AtoiErrMem
import Derived.Lib.BufferRead
import Derived.Lib.BufferWrite
import Derived.Lib.Hide
import Derived.Lib.ItoaNum
import Derived.Lib.LaidTab
import Derived.Lib.OthersKept
import Derived.Lib.Repeat
import Derived.Lib.SliceRun
import Derived.Lib.SmallJoins
import Derived.Maps.AppendAt
import Derived.Maps.OwnSet
import Derived.Maps.RangeWalk
import Derived.Orders
import Derived.ProofKit
import Derived.Recover
import Derived.RowKit
import Derived.Shelf.GgClosure.StringsIndexFunc
import Derived.Shelf.GgClosure.StringsIndexFuncTop
import Derived.Shelf.LaysM
import Derived.Shelf.SlSortCmp.NoneTotal
import Derived.Shelf.Slices.Clone
import Derived.Shelf.Slices.In.SortNone
import Derived.Shelf.Slices.SearchI
import Derived.Shelf.Slices.Turned
import Derived.Shelf.Small.Wraps
import Derived.Shelf.Sort.Plain
import Derived.Shelf.Strconv.Atoi
import Derived.Shelf.Strconv.Itoa3
import Derived.Shelf.Strings.Builder1
import Derived.Shelf.Strings.Prefix
import Derived.Shelf.Strings.Repeat
import Derived.SliceStrings
import Derived.Sort.KeysCollected
import Derived.Sort.OwnSorted
import Derived.StillTailTactics
import Derived.StringKeys
import Derived.Test.YthkmnnokbocegaaGreatDoorProg
import Derived.Test.YthkmnnokbocegaaGreatDoorRows
import Derived.WalkKit
import Derived.WalkLawsBesides
import Derived.WalkSmall
import Derived.WalkSpells
import Derived.Test.YthkmnnokbocegaaGreatDoorKN1
import Derived.Test.YthkmnnokbocegaaGreatDoorKN2
import Derived.Test.YthkmnnokbocegaaGreatDoorKN3
import Derived.Test.YthkmnnokbocegaaGreatDoorKN4
import Derived.Test.YthkmnnokbocegaaGreatDoorKN5
import Derived.Test.YthkmnnokbocegaaGreatDoorKN6
import Derived.Test.YthkmnnokbocegaaGreatDoorKN7
import Derived.Test.YthkmnnokbocegaaGreatDoorKN8
import Derived.Test.YthkmnnokbocegaaGreatDoorKN9
import Derived.Test.YthkmnnokbocegaaGreatDoorKN10
import Derived.Test.YthkmnnokbocegaaGreatDoorKN11
import Derived.Test.YthkmnnokbocegaaGreatDoorKN12
import Derived.Test.YthkmnnokbocegaaGreatDoorKN13
import Derived.Test.YthkmnnokbocegaaGreatDoorKN14
import Derived.Test.YthkmnnokbocegaaGreatDoorKN15
import Derived.Test.YthkmnnokbocegaaGreatDoorKN16
import Derived.Test.YthkmnnokbocegaaGreatDoorKN17
import Derived.Test.YthkmnnokbocegaaGreatDoorKN18
import Derived.Test.YthkmnnokbocegaaGreatDoorKN19
import Derived.Test.YthkmnnokbocegaaGreatDoorKN20
import Derived.Test.YthkmnnokbocegaaGreatDoorKN21
import Derived.Test.YthkmnnokbocegaaGreatDoorKN22
import Derived.Test.YthkmnnokbocegaaGreatDoorKN23
import Derived.Test.YthkmnnokbocegaaGreatDoorKN24
import Derived.Test.YthkmnnokbocegaaGreatDoorKN25
import Derived.Test.YthkmnnokbocegaaGreatDoorKN26
import Derived.Test.YthkmnnokbocegaaGreatDoorKN27
import Derived.Test.YthkmnnokbocegaaGreatDoorKN29
import Derived.Test.YthkmnnokbocegaaGreatDoorKN30
import Derived.Test.YthkmnnokbocegaaGreatDoorKN31
import Derived.Test.YthkmnnokbocegaaGreatDoorKN32
import Derived.Test.YthkmnnokbocegaaGreatDoorKN33
import Derived.Test.YthkmnnokbocegaaGreatDoorKN34
import Derived.Test.YthkmnnokbocegaaGreatDoorKN35
import Derived.Test.YthkmnnokbocegaaGreatDoorKN36
import Derived.Test.YthkmnnokbocegaaGreatDoorKN37
import Derived.Test.YthkmnnokbocegaaGreatDoorKN38
namespace Go.Proofs.YthkmnnokbocegaaGreatDoor
open Go.Joins Go.ChangeShapes Go.WideShapes Go.RowKit Go.Deep
set_option linter.unusedVariables false
set_option linter.unusedSimpArgs false

/-- A slice value reads as these records. -/
def MsgsAt (w : World) (v : Value) (ms : List (MsgM × Value)) : Prop :=
  ∃ a cap, v = .slice a ms.length cap ∧ (ms = [] ∨ ∃ b o, a = some ⟨b, o, none⟩ ∧ b < w.heap.size ∧ ∀ k p, ms[k]? = some p → ∀ i, i < 10 → w.cell? ⟨b, o + k * 10 + i, none⟩ = (p.1.cells p.2)[i]?)
theorem MsgsAt.form {w : World} {v : Value} {ms : List (MsgM × Value)} (h : MsgsAt w v ms) : ∃ a cap, v = .slice a ms.length cap := by
  obtain ⟨a, cap, e, _⟩ := h
  exact ⟨a, cap, e⟩
theorem MsgsAt.keep {w w' : World} {v : Value} {ms : List (MsgM × Value)} (h : MsgsAt w v ms) {S : Nat → Prop} (hc : Chg S w w') (hS : ∀ q, q < w.heap.size → ¬ S q) : MsgsAt w' v ms := by
  obtain ⟨a, cap, rfl, h⟩ := h
  refine ⟨a, cap, rfl, ?_⟩
  rcases h with h | ⟨b, o, rfl, hb, h⟩
  · exact .inl h
  · refine .inr ⟨b, o, rfl, Nat.lt_of_lt_of_le hb hc.size, fun k p hp i hi => ?_⟩
    rw [← h k p hp i hi]
    exact World.cell?_of_block (hc.block b hb (hS b hb))
instance : Inhabited (MsgM × Value) := ⟨(⟨0, 0, 0, 0, 0, 0, ⟨#[]⟩, ⟨#[]⟩, ⟨#[]⟩, []⟩, .slice none 0 0)⟩
section
variable {H : Type} {enc : TypeId × Value → H} {W : World}
end
end Go.Proofs.YthkmnnokbocegaaGreatDoor

namespace Go.Proofs.YthkmnnokbocegaaGreatDoor
open Go.RowKit Go.Deep
set_option linter.unusedVariables false
set_option linter.unusedSimpArgs false
attribute [local go_sem] fr_opt

theorem chg_below {w w' : World} (h : Chg (fun _ => False) w w') : Below w.heap.size w w' := h.below (fun _ _ e => e.elim) (Nat.le_refl _)
theorem below_chg {w w' : World} (h : Below w.heap.size w w') : Chg (fun _ => False) w w' := Chg.of_below h
theorem Sized.below {w w' : World} {p : MsgM × Value} (h : Sized w p) (hb : Below w.heap.size w w') : Sized w' p := ⟨h.strs.below hb (Nat.le_refl _), h.body, h.topic, h.tag, h.many, h.keys⟩
theorem getK_noted (t : TapeM) (v : Value) (id size born : Int) : (getK (t.noted v id size born).M id).getD 0 = size := by
  simp only [TapeM.noted]
  unfold getK
  rw [List.find?_append]
  have : (dropK t.M id).find? (fun p => decide (p.1 = id)) = none := by
    rw [List.find?_eq_none]
    intro p hp
    have := (List.mem_filter.1 hp).2
    simp at this ⊢
    exact this
  rw [this]
  simp
theorem noted_len (t : TapeM) (v : Value) (id size born : Int) : (t.noted v id size born).M.length ≤ t.M.length + 1 ∧ (t.noted v id size born).ids.length = t.ids.length + 1 := by
  simp only [TapeM.noted, List.length_append, List.length_singleton]
  have : (dropK t.M id).length ≤ t.M.length := List.length_filter_le ..
  exact ⟨by omega, by first | trivial | rfl⟩
/-- How the tape is, k records on. -/
structure IdsI (w0 w : World) (tb k : Nat) (last : Int) (t : TapeM) (g : Gh) (st : St) (m : RowM) (j : Nat) (all : List UInt8) : Prop where
  tg : TapeG w0 w tb t g st m
  rc : RowC (4 * k) m st 1024 0 j all
  hd : m.head = tH
  ok : all.length % 1024 ≤ 1021
  sz : st.size ≤ 1351 * k
  cap : st.cap = 1048576
  len : all.length ≤ 1351 * k
  ml : t.M.length ≤ k
  il : t.ids.length ≤ k
  lt : last < all.length
  ge : -1 ≤ last
theorem IdsI.more {w0 w : World} {tb k : Nat} {last : Int} {t : TapeM} {g : Gh} {st : St} {m : RowM} {j : Nat} {all : List UInt8} (h : IdsI w0 w tb k last t g st m j all) : IdsI w0 w tb (k + 1) last t g st m j all :=
  ⟨h.tg, h.rc.more (by omega), h.hd, h.ok, by have := h.sz; omega, h.cap, by have := h.len; omega, by have := h.ml; omega, by have := h.il; omega, h.lt, h.ge⟩
theorem IdsI.new {w0 w w' : World} {tb k : Nat} {last : Int} {t : TapeM} {g : Gh} {st : St} {m : RowM} {j : Nat} {all : List UInt8} (h : IdsI w0 w tb k last t g st m j all) (hc : Chg (fun _ => False) w w') : IdsI w0 w' tb k last t g st m j all :=
  { h with tg := h.tg.new hc }
theorem IdsI.app {w0 w w' : World} {tb k : Nat} {last : Int} {t : TapeM} {g : Gh} {st : St} {m : RowM} {j : Nat} {all : List UInt8} {F S : ByteArray} {born : Int} (h : IdsI w0 w tb k last t g st m j all)
    (h3 : 3 ≤ S.size) (h327 : S.size ≤ 327) (hF : F.size ≤ 1024) (hok : (all.length + F.size + S.size) % 1024 ≤ 1021)
    (ha : TAppTo w0 w tb t g st m (4 * k + 4) 0 all (F.data.toList ++ S.data.toList) ((1024 * 0 + all.length + F.size : Nat) : Int) S.size born w') :
    ∃ t' g' st' m' j', IdsI w0 w' tb (k + 1) ((1024 * 0 + all.length + F.size : Nat) : Int) t' g' st' m' j' (all ++ (F.data.toList ++ S.data.toList)) ∧ (getK t'.M ((1024 * 0 + all.length + F.size : Nat) : Int)).getD 0 = (S.size : Int) := by
  obtain ⟨g', m', st', v', j', h1, h2, hh, hs, h5, h6, h7, h8⟩ := ha
  have hl : (F.data.toList ++ S.data.toList).length = F.size + S.size := by rw [List.length_append, size_toList, size_toList]
  have hn := noted_len t v' ((1024 * 0 + all.length + F.size : Nat) : Int) S.size born
  have a1 := h.sz
  have a2 := h.len
  have a3 := h.ml
  have a4 := h.il
  refine ⟨_, g', st', m', j', ⟨h1, h5, by rw [hh]; exact h.hd, ?_, by rw [h6, hl]; omega, by rw [h7]; exact h.cap, ?_, by have := hn.1; omega, by rw [hn.2]; omega, ?_, by omega⟩, getK_noted _ _ _ _ _⟩
  · rw [List.length_append, hl]; rw [← Nat.add_assoc]; exact hok
  · rw [List.length_append, hl]; omega
  · rw [List.length_append, hl]; omega

end Go.Proofs.YthkmnnokbocegaaGreatDoor

