/-
  Part 37: what the statement needs of these texts: QLaw.
-/
import Derived.BigQuiet
import Derived.BigRegion
import Derived.Deep.AppendLies
import Derived.Deep.OwnRows
import Derived.Deep.QuietTactic
import Derived.Deep.RegionHeld3
import Derived.DeepKeys4
import Derived.IntWalk
import Derived.Laws.CopyOwn
import Derived.Laws.OwnMore
import Derived.Laws.RangeAny
import Derived.Lib.AppendStr
import Derived.Lib.AppendZerosOnto
import Derived.Lib.Atoi
import Derived.Lib.AtoiErrMem
import Derived.Lib.BufferRead
import Derived.Lib.BufferWrite
import Derived.Lib.Builder
import Derived.Lib.Hide
import Derived.Lib.ItoaNum
import Derived.Lib.LaidTab
import Derived.Lib.MinMax
import Derived.Lib.OthersKept
import Derived.Lib.Repeat
import Derived.Lib.SliceRun
import Derived.Lib.Slices
import Derived.Lib.Strings
import Derived.Lib.UnsafeStr
import Derived.Maps.AppendAt
import Derived.Maps.OwnSet
import Derived.Maps.RangeWalk
import Derived.Orders
import Derived.ProofKit
import Derived.RowKit
import Derived.Shelf.GgClosure.StringsIndexFunc
import Derived.Shelf.GgClosure.StringsIndexFuncTop
import Derived.Shelf.LaysM
import Derived.Shelf.SlSortCmp.NoneTotal
import Derived.Shelf.Slices.In.SortNone
import Derived.Shelf.Slices.SearchI
import Derived.Shelf.Small.Wraps
import Derived.Shelf.Sort.Plain
import Derived.Shelf.Strconv.Atoi
import Derived.Shelf.Strconv.Itoa3
import Derived.Shelf.Strings.Builder1
import Derived.Shelf.Strings.Prefix
import Derived.Shelf.Strings.Repeat
import Derived.Sort.KeysCollected
import Derived.Sort.OwnSorted
import Derived.StillTailTactics
import Derived.StringKeys
import Derived.Test.YtmhojpipmllphaaGreatDoorProg
import Derived.Test.YtmhojpipmllphaaGreatDoorRows
import Derived.WalkKit
import Derived.WalkLawsBesides
import Derived.WalkSmall
import Derived.WalkSpells
import Derived.Test.YtmhojpipmllphaaGreatDoorQpl1
import Derived.Test.YtmhojpipmllphaaGreatDoorQpl2
import Derived.Test.YtmhojpipmllphaaGreatDoorQpl3
import Derived.Test.YtmhojpipmllphaaGreatDoorQpl4
import Derived.Test.YtmhojpipmllphaaGreatDoorQpl5
import Derived.Test.YtmhojpipmllphaaGreatDoorQpl6
import Derived.Test.YtmhojpipmllphaaGreatDoorQpl7
import Derived.Test.YtmhojpipmllphaaGreatDoorQpl8
import Derived.Test.YtmhojpipmllphaaGreatDoorQpl10
import Derived.Test.YtmhojpipmllphaaGreatDoorQpl11
import Derived.Test.YtmhojpipmllphaaGreatDoorQpl12
import Derived.Test.YtmhojpipmllphaaGreatDoorQpl13
import Derived.Test.YtmhojpipmllphaaGreatDoorQpl14
import Derived.Test.YtmhojpipmllphaaGreatDoorQpl15
import Derived.Test.YtmhojpipmllphaaGreatDoorQpl16
import Derived.Test.YtmhojpipmllphaaGreatDoorQpl17
import Derived.Test.YtmhojpipmllphaaGreatDoorQpl18
import Derived.Test.YtmhojpipmllphaaGreatDoorQpl19
import Derived.Test.YtmhojpipmllphaaGreatDoorQpl20
import Derived.Test.YtmhojpipmllphaaGreatDoorQpl21
import Derived.Test.YtmhojpipmllphaaGreatDoorQpl22
import Derived.Test.YtmhojpipmllphaaGreatDoorQpl23
import Derived.Test.YtmhojpipmllphaaGreatDoorQpl26
import Derived.Test.YtmhojpipmllphaaGreatDoorQpl27
import Derived.Test.YtmhojpipmllphaaGreatDoorQpl28
import Derived.Test.YtmhojpipmllphaaGreatDoorQpl29
import Derived.Test.YtmhojpipmllphaaGreatDoorQpl30
import Derived.Test.YtmhojpipmllphaaGreatDoorQpl31
import Derived.Test.YtmhojpipmllphaaGreatDoorQpl32
import Derived.Test.YtmhojpipmllphaaGreatDoorQpl33
import Derived.Test.YtmhojpipmllphaaGreatDoorQpl34
import Derived.Test.YtmhojpipmllphaaGreatDoorQpl35
import Derived.Test.YtmhojpipmllphaaGreatDoorQpl36
namespace Go.Proofs.YtmhojpipmllphaaGreatDoor
open Go.RowKit Go.Deep
set_option linter.unusedVariables false
set_option linter.unusedSimpArgs false

theorem fit_right (a b c d : Int) : (⟨a, b, c, d⟩ : PlM).fit = true ↔ (0 ≤ a ∧ a < 281474976710656) ∧ (0 ≤ b ∧ b < 65536) ∧ (0 ≤ c ∧ c < 1099511627776) ∧ 0 ≤ d ∧ d < 72057594037927936 := by
  unfold PlM.fit
  rw [fit4_iff]
  constructor
  · intro h
    have h0 : 0 ≤ a ∧ a < 256 ^ 6 := h 0 (by decide)
    have h1 : 0 ≤ b ∧ b < 256 ^ 2 := h 1 (by decide)
    have h2 : 0 ≤ c ∧ c < 256 ^ 5 := h 2 (by decide)
    have h3 : 0 ≤ d ∧ d < 256 ^ 7 := h 3 (by decide)
    omega
  · rintro ⟨⟨a0, a1⟩, ⟨b0, b1⟩, ⟨c0, c1⟩, d0, d1⟩ k hk
    match k, hk with
    | 0, _ => exact ⟨a0, by show a < 256 ^ 6; omega⟩
    | 1, _ => exact ⟨b0, by show b < 256 ^ 2; omega⟩
    | 2, _ => exact ⟨c0, by show c < 256 ^ 5; omega⟩
    | 3, _ => exact ⟨d0, by show d < 256 ^ 7; omega⟩
set_option maxHeartbeats 2000000 in
set_option maxRecDepth 100000 in
theorem right_any (a b c d : Int) (w : World) : Calls Tryz.prog 10 #[(⟨a, b, c, d⟩ : PlM).val] w fun e w' => e = .returned (.bool (⟨a, b, c, d⟩ : PlM).fit) ∧ Below w.heap.size w w' := by
  have hf := fit_right a b c d
  obtain ⟨r, hr⟩ : ∃ r, r = (⟨a, b, c, d⟩ : PlM).fit := ⟨_, rfl⟩
  rw [← hr] at hf ⊢
  have HB : Hid (∀ y, Below w.heap.size w ((w.alloc (.cells #[.int .i64 a, .int .i64 b, .int .i64 c, .int .i64 d] 32)).drewN y)) := Lib.hid (fun y => below_drewN ((Below.refl _ _).alloc (Nat.le_refl _) _) y)
  unfold PlM.val
  dsimp only
  clear hr
  by_cases h0 : 0 ≤ a
  case neg =>
    have hr : r = false := by
      cases r with
      | false => rfl
      | true => have := hf.1 rfl; omega
    subst hr
    clear hf
    go_enter Tryz.func10, Tryz.ntmps10
    go_wp2_with fail
    go_ret
    exact ⟨rfl, HB.out 0⟩
  by_cases h1 : a < 281474976710656
  case neg =>
    have hr : r = false := by
      cases r with
      | false => rfl
      | true => have := hf.1 rfl; omega
    subst hr
    clear hf
    go_enter Tryz.func10, Tryz.ntmps10
    go_wp2_with fail
    go_ret
    exact ⟨rfl, HB.out 0⟩
  by_cases h2 : 0 ≤ b
  case neg =>
    have hr : r = false := by
      cases r with
      | false => rfl
      | true => have := hf.1 rfl; omega
    subst hr
    clear hf
    go_enter Tryz.func10, Tryz.ntmps10
    go_wp2_with fail
    go_ret
    exact ⟨rfl, HB.out 0⟩
  by_cases h3 : b < 65536
  case neg =>
    have hr : r = false := by
      cases r with
      | false => rfl
      | true => have := hf.1 rfl; omega
    subst hr
    clear hf
    go_enter Tryz.func10, Tryz.ntmps10
    go_wp2_with fail
    go_ret
    exact ⟨rfl, HB.out 0⟩
  by_cases h4 : 0 ≤ c
  case neg =>
    have hr : r = false := by
      cases r with
      | false => rfl
      | true => have := hf.1 rfl; omega
    subst hr
    clear hf
    go_enter Tryz.func10, Tryz.ntmps10
    go_wp2_with fail
    go_ret
    exact ⟨rfl, HB.out 0⟩
  by_cases h5 : c < 1099511627776
  case neg =>
    have hr : r = false := by
      cases r with
      | false => rfl
      | true => have := hf.1 rfl; omega
    subst hr
    clear hf
    go_enter Tryz.func10, Tryz.ntmps10
    go_wp2_with fail
    go_ret
    exact ⟨rfl, HB.out 0⟩
  by_cases h6 : 0 ≤ d
  case neg =>
    have hr : r = false := by
      cases r with
      | false => rfl
      | true => have := hf.1 rfl; omega
    subst hr
    clear hf
    go_enter Tryz.func10, Tryz.ntmps10
    go_wp2_with fail
    go_ret
    exact ⟨rfl, HB.out 0⟩
  by_cases h7 : d < 72057594037927936
  case neg =>
    have hr : r = false := by
      cases r with
      | false => rfl
      | true => have := hf.1 rfl; omega
    subst hr
    clear hf
    go_enter Tryz.func10, Tryz.ntmps10
    go_wp2_with fail
    go_ret
    exact ⟨rfl, HB.out 0⟩
  have hr : r = true := hf.2 (by omega)
  subst hr
  clear hf
  go_enter Tryz.func10, Tryz.ntmps10
  go_wp2_with fail
  go_ret
  exact ⟨rfl, HB.out 0⟩

/-- Where a queue stands in the law's list; -1: nowhere. -/
def findJ (L : List (ByteArray × Int)) (t : ByteArray) (q : Int) : Int := match L.findIdx? (fun p => decide (p.1 = t ∧ p.2 = q)) with
  | some i => (i : Int)
  | none => -1
theorem findJ_at {L : List (ByteArray × Int)} {t : ByteArray} {q : Int} {k : Nat} (hk : L[k]? = some (t, q)) (hb : ∀ i x, i < k → L[i]? = some x → ¬ (x.1 = t ∧ x.2 = q)) : findJ L t q = (k : Int) := by
  have : L.findIdx? (fun p => decide (p.1 = t ∧ p.2 = q)) = some k := by
    rw [List.findIdx?_eq_some_iff_getElem]
    obtain ⟨h1, h2⟩ := List.getElem?_eq_some_iff.1 hk
    refine ⟨h1, by rw [h2]; simp, fun j hj => ?_⟩
    have := hb j L[j] hj (List.getElem?_eq_getElem (by omega))
    simpa using this
  unfold findJ
  rw [this]
theorem findJ_none {L : List (ByteArray × Int)} {t : ByteArray} {q : Int} (hb : ∀ i x, i < L.length → L[i]? = some x → ¬ (x.1 = t ∧ x.2 = q)) : findJ L t q = -1 := by
  have : L.findIdx? (fun p => decide (p.1 = t ∧ p.2 = q)) = none := by
    rw [List.findIdx?_eq_none_iff]
    intro x hx
    obtain ⟨i, hi, rfl⟩ := List.getElem_of_mem hx
    have := hb i L[i] hi (List.getElem?_eq_getElem hi)
    simpa using this
  unfold findJ
  rw [this]
set_option maxHeartbeats 2000000 in
set_option maxRecDepth 100000 in
theorem lfind_any (p : Option Addr) (cap : Nat) (L : List (ByteArray × Int)) (t : ByteArray) (q : Int) (w : World) (hn : L.length ≤ 1000000)
    (hc : ∀ i x, L[i]? = some x → ∃ b, p = some ⟨b, 0, none⟩ ∧ w.cell? ⟨b, i * 5, none⟩ = some (.string x.1) ∧ w.cell? ⟨b, i * 5 + 1, none⟩ = some (.int .i64 x.2)) :
    Calls Tryz.prog 8 #[.slice p L.length cap, .string t, .int .i64 q] w fun e w' => e = .returned (.int .i64 (findJ L t q)) ∧ ∃ y, w' = w.drewN y := by
  obtain ⟨r, hr⟩ : ∃ r, r = findJ L t q := ⟨_, rfl⟩
  obtain ⟨N, hN⟩ : ∃ N, N = L.length := ⟨_, rfl⟩
  rw [← hr, ← hN]
  rw [← hN] at hn
  have HR := Lib.hid hr
  have HN := Lib.hid hN
  have HC := Lib.hid hc
  clear hr hN hc
  go_enter Tryz.func8, Tryz.ntmps8
  go_wp2_with fail
  go_loopw [10] (fun i wr => ∃ k : Nat, k ≤ N ∧ i = .int .i64 (k : Int) ∧ Hid (∀ i x, i < k → L[i]? = some x → ¬ (x.1 = t ∧ x.2 = q)) ∧ ∃ y, wr = w.drewN y) (fun i _ => N - (intOf i).toNat)
  case atStart => exact ⟨0, Nat.zero_le _, rfl, Lib.hid (fun i x h => absurd h (by omega)), 0, rfl⟩
  case round =>
    obtain ⟨k, hk, rfl, HB, y, rfl⟩ := hrel
    by_cases hlt : k < N
    · obtain ⟨x, hx⟩ : ∃ x, L[k]? = some x := ⟨_, List.getElem?_eq_getElem (by rw [← HN.out]; exact hlt)⟩
      obtain ⟨b, rfl, c0, c1⟩ := HC.out k x hx
      have e0 : (w.drewN y).cell? ⟨b, k * 5, none⟩ = some (.string x.1) := c0
      have e1 : (w.drewN y).cell? ⟨b, k * 5 + 1, none⟩ = some (.int .i64 x.2) := c1
      have HX := Lib.hid hx
      obtain ⟨xt, xq⟩ := x
      dsimp only at e0 e1
      have hnext : ¬ (xt = t ∧ xq = q) → Hid (∀ i x, i < k + 1 → L[i]? = some x → ¬ (x.1 = t ∧ x.2 = q)) := fun hne => Lib.hid (fun i x hi hx2 => by
        by_cases hik : i = k
        · subst hik
          rw [HX.out] at hx2
          cases hx2
          exact hne
        · exact HB.out i x (by omega) hx2)
      clear c0 c1 hx
      by_cases ht : xt = t
      · by_cases hq : xq = q
        · have hrk : r = (k : Int) := by rw [HR.out]; exact findJ_at (by rw [HX.out, ht, hq]) HB.out
          have e2 : (xt.toList == t.toList) = true := by rw [ht]; simp
          subst hq
          clear hnext
          go_wp2_with fail
          go_ret
          exact ⟨ret_of hrk.symm, _, rfl⟩
        · have HNX := hnext (fun h => hq h.2)
          have e2 : (xt.toList == t.toList) = true := by rw [ht]; simp
          clear hnext
          go_wp2_with fail
          exact ⟨⟨k + 1, by omega, by go_num, HNX, _, rfl⟩, by simp [intOf]; omega⟩
      · have HNX := hnext (fun h => ht h.1)
        have e2 : (xt.toList == t.toList) = false := by
          rw [beq_eq_false_iff_ne]
          exact fun hx => ht (byteList_eq hx)
        clear hnext
        go_wp2_with fail
        exact ⟨⟨k + 1, by omega, by go_num, HNX, _, rfl⟩, by simp [intOf]; omega⟩
    · have hkN : k = N := by omega
      have hr1 : r = -1 := by
        rw [HR.out]
        exact findJ_none (by rw [← HN.out, ← hkN]; exact HB.out)
      subst hr1
      go_wp2_with fail
      go_ret
      exact ⟨rfl, _, rfl⟩
end Go.Proofs.YtmhojpipmllphaaGreatDoor

