/-
  Part 32: what the statement needs of these texts: QHead.
-/
import Derived.BigQuiet
import Derived.BigRegion
import Derived.Deep.OwnRows
import Derived.Deep.QuietTactic
import Derived.Deep.RegionHeld3
import Derived.IntWalk
import Derived.Laws.CopyOwn
import Derived.Laws.OwnMore
import Derived.Laws.RangeAny
import Derived.Lib.AppendZerosOnto
import Derived.Lib.Atoi
import Derived.Lib.AtoiErrMem
import Derived.Lib.BufferRead
import Derived.Lib.BufferWrite
import Derived.Lib.Hide
import Derived.Lib.ItoaNum
import Derived.Lib.LaidTab
import Derived.Lib.OthersKept
import Derived.Lib.Repeat
import Derived.Maps.AppendAt
import Derived.Maps.OwnSet
import Derived.Maps.RangeWalk
import Derived.Orders
import Derived.ProofKit
import Derived.Shelf.GgClosure.StringsIndexFunc
import Derived.Shelf.GgClosure.StringsIndexFuncTop
import Derived.Shelf.LaysM
import Derived.Shelf.SlSortCmp.NoneTotal
import Derived.Shelf.Slices.In.SortNone
import Derived.Shelf.Slices.SearchI
import Derived.Shelf.Small.Wraps
import Derived.Shelf.Sort.Plain
import Derived.Shelf.Strconv.Atoi
import Derived.Shelf.Strconv.Itoa3
import Derived.Shelf.Strings.Builder1
import Derived.Shelf.Strings.Prefix
import Derived.Shelf.Strings.Repeat
import Derived.Sort.KeysCollected
import Derived.Sort.OwnSorted
import Derived.StillTailTactics
import Derived.StringKeys
import Derived.Test.YtmhojpipmllphaaGreatDoorProg
import Derived.Test.YtmhojpipmllphaaGreatDoorRows
import Derived.WalkKit
import Derived.WalkLawsBesides
import Derived.WalkSmall
import Derived.WalkSpells
import Derived.Test.YtmhojpipmllphaaGreatDoorQpl4
import Derived.Test.YtmhojpipmllphaaGreatDoorQpl5
import Derived.Test.YtmhojpipmllphaaGreatDoorQpl6
import Derived.Test.YtmhojpipmllphaaGreatDoorQpl7
import Derived.Test.YtmhojpipmllphaaGreatDoorQpl8
import Derived.Test.YtmhojpipmllphaaGreatDoorQpl10
import Derived.Test.YtmhojpipmllphaaGreatDoorQpl12
import Derived.Test.YtmhojpipmllphaaGreatDoorQpl14
import Derived.Test.YtmhojpipmllphaaGreatDoorQpl15
import Derived.Test.YtmhojpipmllphaaGreatDoorQpl16
import Derived.Test.YtmhojpipmllphaaGreatDoorQpl17
import Derived.Test.YtmhojpipmllphaaGreatDoorQpl18
import Derived.Test.YtmhojpipmllphaaGreatDoorQpl19
import Derived.Test.YtmhojpipmllphaaGreatDoorQpl20
import Derived.Test.YtmhojpipmllphaaGreatDoorQpl23
import Derived.Test.YtmhojpipmllphaaGreatDoorQpl27
import Derived.Test.YtmhojpipmllphaaGreatDoorQpl28
import Derived.Test.YtmhojpipmllphaaGreatDoorQpl29
import Derived.Test.YtmhojpipmllphaaGreatDoorQpl30
import Derived.Test.YtmhojpipmllphaaGreatDoorQpl31
namespace Go.Proofs.YtmhojpipmllphaaGreatDoor
open Go.RowKit Go.Deep
set_option linter.unusedVariables false
set_option linter.unusedSimpArgs false

/-- A queue: its topic, its number. -/
def headL (t : List UInt8) (q : Nat) : List UInt8 := 113 :: 45 :: (t ++ 46 :: UInt8.ofNat (48 + q) :: [45])
def headQ (t : ByteArray) (q : Nat) : ByteArray := ⟨(headL t.data.toList q).toArray⟩
theorem headQ_data (t : ByteArray) (q : Nat) : (headQ t q).data.toList = headL t.data.toList q := by simp [headQ]
theorem headQ_size (t : ByteArray) (q : Nat) : (headQ t q).size = t.size + 5 := by
  show (headQ t q).data.size = t.data.size + 5
  rw [← Array.length_toList, headQ_data, ← Array.length_toList]
  simp [headL]
theorem sep_eq : ∀ {a b x y : List UInt8}, 46 ∉ a → 46 ∉ b → a ++ 46 :: x = b ++ 46 :: y → a = b ∧ x = y
  | [], [], x, y, _, _, h => ⟨rfl, by simpa using h⟩
  | [], c :: b, x, y, _, hb, h => by
    simp only [List.nil_append, List.cons_append, List.cons.injEq] at h
    exact absurd (h.1 ▸ List.mem_cons_self ..) hb
  | c :: a, [], x, y, ha, _, h => by
    simp only [List.nil_append, List.cons_append, List.cons.injEq] at h
    exact absurd (h.1 ▸ List.mem_cons_self ..) ha
  | c :: a, d :: b, x, y, ha, hb, h => by
    simp only [List.cons_append, List.cons.injEq] at h
    obtain ⟨h1, h2⟩ := sep_eq (fun hx => ha (List.mem_cons_of_mem _ hx)) (fun hx => hb (List.mem_cons_of_mem _ hx)) h.2
    exact ⟨by rw [h.1, h1], h2⟩
theorem digit_inj {p q : Nat} (hp : p < 10) (hq : q < 10) (h : UInt8.ofNat (48 + p) = UInt8.ofNat (48 + q)) : p = q := by
  have := congrArg UInt8.toNat h
  simp at this
  omega
theorem prefix_app {p l : List UInt8} (h : Lib.hasPrefix l p = true) : ∃ r, l = p ++ r := by
  unfold Lib.hasPrefix at h
  obtain ⟨r, hr⟩ := List.isPrefixOf_iff_prefix.1 h
  exact ⟨r, hr.symm⟩
theorem heads_unlike {s t nm : ByteArray} {p q : Nat} (hs : 46 ∉ s.data.toList) (ht : 46 ∉ t.data.toList) (hp : p < 10) (hq : q < 10) (hne : ¬ (s = t ∧ p = q)) (h : Lib.hasPrefix nm.data.toList (headQ s p).data.toList = true) : Lib.hasPrefix nm.data.toList (headQ t q).data.toList = false := by
  cases hx : Lib.hasPrefix nm.data.toList (headQ t q).data.toList with
  | false => rfl
  | true =>
    exfalso
    obtain ⟨r1, h1⟩ := prefix_app h
    obtain ⟨r2, h2⟩ := prefix_app hx
    rw [h1, headQ_data, headQ_data] at h2
    unfold headL at h2
    simp only [List.cons_append, List.cons.injEq, true_and, List.append_assoc] at h2
    obtain ⟨e1, e2⟩ := sep_eq hs ht h2
    simp only [List.cons.injEq] at e2
    exact hne ⟨ByteArray.ext (Array.toList_inj.1 e1), digit_inj hp hq e2.1⟩
/-- A topic has no point, and isn't long. -/
theorem plain_no_point {L : List (Int × Int)} {n : Nat} {s : ByteArray} (h : okL L n s = true) (hL : inL L 46 = false) : 46 ∉ s.data.toList := by
  unfold okL at h
  simp only [Bool.and_eq_true, List.all_eq_true] at h
  intro hx
  have := h.2 46 hx
  rw [show ((46 : UInt8).toNat : Int) = 46 from rfl, hL] at this
  cases this
theorem topic_small {s : ByteArray} (h : topicB s = true) : 46 ∉ s.data.toList ∧ s.size ≤ 16 := by
  have key : ∀ g : ByteArray, 46 ∉ g.data.toList → (∀ x ∈ g.data.toList, x ≠ 46) := fun g hg x hx e => hg (e ▸ hx)
  have hown : ∀ hd : ByteArray, hd.size ≤ 8 → 46 ∉ hd.data.toList → ownB s hd = true → 46 ∉ s.data.toList ∧ s.size ≤ 16 := fun hd h8 hp ho => by
    unfold ownB at ho
    simp only [Bool.and_eq_true] at ho
    obtain ⟨ho1, ho2⟩ := ho
    have hg := group_some ho2
    have hgp := plain_no_point (L := plainL) ho2 (by decide)
    have hle := has_le ho1
    have hsz : (s.extract hd.size s.size).size = s.size - hd.size := by simp
    have hdt : s.data.toList = s.data.toList.take hd.size ++ (s.extract hd.size s.size).data.toList := by
      have e : (s.extract hd.size s.size).data.toList = s.data.toList.drop hd.size := by
        rw [ByteArray.data_extract, Array.toList_extract, List.extract_eq_take_drop, List.take_of_length_le]
        rw [List.length_drop, Array.length_toList]
        exact Nat.le_refl _
      rw [e, List.take_append_drop]
    have htk : s.data.toList.take hd.size = hd.data.toList := by
      rw [has_long hle] at ho1
      have e := eq_of_beq ho1
      rw [ByteArray.toList_eq, ByteArray.toList_eq] at e
      simpa using e
    refine ⟨?_, by omega⟩
    rw [hdt, htk]
    intro hx
    rcases List.mem_append.1 hx with hx | hx
    · exact hp hx
    · exact hgp hx
  unfold topicB isOwn at h
  simp only [Bool.or_eq_true] at h
  rcases h with (h | h) | h
  · exact hown retryH (by decide) (by decide) h
  · exact hown deadH (by decide) (by decide) h
  · refine ⟨plain_no_point (L := plainL) h (by decide), ?_⟩
    unfold plainB okL at h
    simp only [Bool.and_eq_true, decide_eq_true_eq] at h
    exact h.1.2
end Go.Proofs.YtmhojpipmllphaaGreatDoor

