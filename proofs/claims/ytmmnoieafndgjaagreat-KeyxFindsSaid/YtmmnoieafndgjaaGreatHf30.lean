/-
  Part 30: what the statement needs of these texts: KAddsL.
-/
import Derived.BigQuiet
import Derived.BigRegion
import Derived.ChangeSame
import Derived.Deep.Grids
import Derived.Deep.OwnRows
import Derived.Deep.QuietTactic
import Derived.Deep.RegionHeld3
import Derived.IntWalk
import Derived.Laws.CopyOwn
import Derived.Laws.OwnMore
import Derived.Laws.RangeAny
import Derived.Lib.AppendStr
import Derived.Lib.AppendZerosOnto
import Derived.Lib.Atoi
import Derived.Lib.AtoiErrMem
import Derived.Lib.BufferRead
import Derived.Lib.BufferWrite
import Derived.Lib.Builder
import Derived.Lib.Hide
import Derived.Lib.IndexMore
import Derived.Lib.ItoaNum
import Derived.Lib.LaidTab
import Derived.Lib.OthersKept
import Derived.Lib.Repeat
import Derived.Lib.Slices
import Derived.Lib.SmallJoins
import Derived.Lib.Strings
import Derived.Lib.UnsafeStr
import Derived.Maps.AppendAt
import Derived.Maps.OwnSet
import Derived.Maps.RangeWalk
import Derived.OpenShut
import Derived.Orders
import Derived.ProofKit
import Derived.Shelf.Slices.In.SortNone
import Derived.Shelf.Small.Wraps
import Derived.Shelf.Sort.Plain
import Derived.Shelf.Strings.Builder1
import Derived.Shelf.Strings.Prefix
import Derived.Shelf.Strings.Repeat
import Derived.SliceStrings
import Derived.Sort.KeysCollected
import Derived.Sort.OwnSorted
import Derived.StillTailTactics
import Derived.StringKeys
import Derived.Test.YtmmnoieafndgjaaGreatProg
import Derived.Test.YtmmnoieafndgjaaGreatRows
import Derived.WalkKit
import Derived.WalkLawsBesides
import Derived.WalkSmall
import Derived.WalkSpells
import Derived.Test.YtmmnoieafndgjaaGreatHf2
import Derived.Test.YtmmnoieafndgjaaGreatHf3
import Derived.Test.YtmmnoieafndgjaaGreatHf4
import Derived.Test.YtmmnoieafndgjaaGreatHf5
import Derived.Test.YtmmnoieafndgjaaGreatHf6
import Derived.Test.YtmmnoieafndgjaaGreatHf7
import Derived.Test.YtmmnoieafndgjaaGreatHf8
import Derived.Test.YtmmnoieafndgjaaGreatHf9
import Derived.Test.YtmmnoieafndgjaaGreatHf10
import Derived.Test.YtmmnoieafndgjaaGreatHf11
import Derived.Test.YtmmnoieafndgjaaGreatHf12
import Derived.Test.YtmmnoieafndgjaaGreatHf13
import Derived.Test.YtmmnoieafndgjaaGreatHf14
import Derived.Test.YtmmnoieafndgjaaGreatHf15
import Derived.Test.YtmmnoieafndgjaaGreatHf16
import Derived.Test.YtmmnoieafndgjaaGreatHf17
import Derived.Test.YtmmnoieafndgjaaGreatHf18
import Derived.Test.YtmmnoieafndgjaaGreatHf19
import Derived.Test.YtmmnoieafndgjaaGreatHf20
import Derived.Test.YtmmnoieafndgjaaGreatHf21
import Derived.Test.YtmmnoieafndgjaaGreatHf22
import Derived.Test.YtmmnoieafndgjaaGreatHf23
import Derived.Test.YtmmnoieafndgjaaGreatHf24
import Derived.Test.YtmmnoieafndgjaaGreatHf25
import Derived.Test.YtmmnoieafndgjaaGreatHf26
import Derived.Test.YtmmnoieafndgjaaGreatHf27
import Derived.Test.YtmmnoieafndgjaaGreatHf28
import Derived.Test.YtmmnoieafndgjaaGreatHf29
namespace Go.Proofs.YtmmnoieafndgjaaGreat
open Go.RowKit Go.Deep
set_option linter.unusedVariables false
set_option linter.unusedSimpArgs false

def adR (R : List KE) (a : AdM) : List KE := addR R a.t a.k a.x a.y
def rF (l : List AdM) : List KE := l.foldl adR []
theorem take_snoc_at {α : Type} {l : List α} {k : Nat} {x : α} (h : l[k]? = some x) : l.take (k + 1) = l.take k ++ [x] := by
  rw [List.take_add_one, h]
  rfl
theorem rF_snoc {l : List AdM} {k : Nat} {a : AdM} (h : l[k]? = some a) : rF (l.take (k + 1)) = addR (rF (l.take k)) a.t a.k a.x a.y := by
  rw [take_snoc_at h]
  unfold rF
  rw [List.foldl_append]
  rfl
theorem addR_len (R : List KE) (t k : ByteArray) (x y : Int) : (addR R t k x y).length ≤ R.length + 1 := by
  unfold addR
  split
  · exact Nat.le_refl _
  · omega
theorem rF_len : ∀ (l : List AdM) (k : Nat), (rF (l.take k)).length ≤ k
  | l, 0 => by rw [List.take_zero]; exact Nat.le_refl _
  | l, k + 1 => by
    cases h : l[k]? with
    | none =>
      have h1 := rF_len l k
      have h2 : l.length ≤ k := List.getElem?_eq_none_iff.1 h
      rw [List.take_of_length_le (by omega)] at h1 ⊢
      omega
    | some a =>
      rw [rF_snoc h]
      have h1 := rF_len l k
      have h2 := addR_len (rF (l.take k)) a.t a.k a.x a.y
      omega
/-- The index between two adds of a law. -/
def AdsI (w0 wr : World) (xb : Nat) (n : Nat) (R : List KE) : Prop := ∃ g st, KxI w0 wr xb g st n R ∧ st.cap = 1048576
theorem AdsI.new {w0 wr w' : World} {xb n : Nat} {R : List KE} (h : AdsI w0 wr xb n R) (hc : Chg (fun _ => False) wr w') : AdsI w0 w' xb n R := by
  obtain ⟨g, st, h1, h2⟩ := h
  exact ⟨g, st, h1.new hc, h2⟩
theorem AdsI.chg {w0 wr : World} {xb n : Nat} {R : List KE} (h : AdsI w0 wr xb n R) : Chg (fun _ => False) w0 wr := by
  obtain ⟨g, st, h1, h2⟩ := h
  exact h1.disk.chg
theorem AdsI.add {w0 wr : World} {xb n : Nat} {R : List KE} (h : AdsI w0 wr xb n R) (hn : n ≤ 1000000) (hl : R.length ≤ 10000) (t k : ByteArray) (ht : t.size ≤ 1000) (hk : k.size ≤ 1000) (x y : Int) :
    Calls Tryz.prog 10 #[.pointer (some ⟨xb, 0, none⟩), .string t, .string k, .int .i64 x, .int .i64 y] wr fun e w' => e = .returned (.int .i64 (addE t k x y)) ∧ AdsI w0 w' xb (n + 2) (addR R t k x y) ∧ ∃ S, Chg S wr w' ∧ S = (fun q => q = xb ∨ ∃ g st, KxI w0 wr xb g st n R ∧ q ∈ g.fp) := by
  obtain ⟨g, st, h1, h2⟩ := h
  refine (kput_any h1 hn (by omega) (by rw [h1.size, h2]; omega) t k (by unfold maxLen; omega) (by unfold maxLen; omega) x y).mono ?_
  rintro e w' ⟨rfl, g', st', a1, a2, a3⟩
  exact ⟨rfl, ⟨g', st', a1, a3.trans h2⟩, _, a2.chg.wide (fun q _ hq => hq.imp id fun hq => ⟨g, st, h1, hq⟩), rfl⟩
theorem adsI_new {w0 w w' : World} (hc : Chg (fun _ => False) w0 w) (hd : DiskAt w' ⟨w.heap.size, none, []⟩ (newSt 1048576)) (hb : Below w.heap.size w w') :
    Calls Tryz.prog 6 #[.pointer (some ⟨w.heap.size, 0, none⟩)] w' fun e w'' => ∃ xb, e = .returned (.tuple #[.pointer (some ⟨xb, 0, none⟩), .int .i64 0]) ∧ AdsI w0 w'' xb 3 [] := by
  refine (knew_first hc 1048576 (by decide) (by decide) hd hb).mono ?_
  rintro e w'' ⟨xb, g, rfl, _, h⟩
  exact ⟨xb, rfl, g, _, h, kEnd_cap 1048576 (by decide) (by decide)⟩
end Go.Proofs.YtmmnoieafndgjaaGreat

