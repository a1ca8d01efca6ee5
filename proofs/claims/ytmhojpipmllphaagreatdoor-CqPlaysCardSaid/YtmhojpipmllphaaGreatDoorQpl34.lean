/-
  Part 34: what the statement needs of these texts: QSeek, QSeekT, QPub, QAt, QNew, QTrimP, QIds, QAdd, QAwake, QBase.
-/
import Derived.BigQuiet
import Derived.BigRegion
import Derived.Deep.OwnRows
import Derived.Deep.QuietTactic
import Derived.Deep.RegionHeld3
import Derived.DeepKeys4
import Derived.IntWalk
import Derived.Laws.CopyOwn
import Derived.Laws.OwnMore
import Derived.Laws.RangeAny
import Derived.Lib.AppendStr
import Derived.Lib.AppendZerosOnto
import Derived.Lib.Atoi
import Derived.Lib.AtoiErrMem
import Derived.Lib.BufferRead
import Derived.Lib.BufferWrite
import Derived.Lib.Builder
import Derived.Lib.Hide
import Derived.Lib.ItoaNum
import Derived.Lib.LaidTab
import Derived.Lib.OthersKept
import Derived.Lib.Repeat
import Derived.Lib.Slices
import Derived.Lib.Strings
import Derived.Lib.UnsafeStr
import Derived.Maps.AppendAt
import Derived.Maps.OwnSet
import Derived.Maps.RangeWalk
import Derived.Orders
import Derived.ProofKit
import Derived.RowKit
import Derived.Shelf.GgClosure.StringsIndexFunc
import Derived.Shelf.GgClosure.StringsIndexFuncTop
import Derived.Shelf.LaysM
import Derived.Shelf.SlSortCmp.NoneTotal
import Derived.Shelf.Slices.In.SortNone
import Derived.Shelf.Slices.SearchI
import Derived.Shelf.Small.Wraps
import Derived.Shelf.Sort.Plain
import Derived.Shelf.Strconv.Atoi
import Derived.Shelf.Strconv.Itoa3
import Derived.Shelf.Strings.Builder1
import Derived.Shelf.Strings.Prefix
import Derived.Shelf.Strings.Repeat
import Derived.Sort.KeysCollected
import Derived.Sort.OwnSorted
import Derived.StillTailTactics
import Derived.StringKeys
import Derived.Test.YtmhojpipmllphaaGreatDoorProg
import Derived.Test.YtmhojpipmllphaaGreatDoorRows
import Derived.WalkKit
import Derived.WalkLawsBesides
import Derived.WalkSmall
import Derived.WalkSpells
import Derived.Test.YtmhojpipmllphaaGreatDoorQpl1
import Derived.Test.YtmhojpipmllphaaGreatDoorQpl2
import Derived.Test.YtmhojpipmllphaaGreatDoorQpl3
import Derived.Test.YtmhojpipmllphaaGreatDoorQpl4
import Derived.Test.YtmhojpipmllphaaGreatDoorQpl5
import Derived.Test.YtmhojpipmllphaaGreatDoorQpl6
import Derived.Test.YtmhojpipmllphaaGreatDoorQpl7
import Derived.Test.YtmhojpipmllphaaGreatDoorQpl8
import Derived.Test.YtmhojpipmllphaaGreatDoorQpl10
import Derived.Test.YtmhojpipmllphaaGreatDoorQpl11
import Derived.Test.YtmhojpipmllphaaGreatDoorQpl12
import Derived.Test.YtmhojpipmllphaaGreatDoorQpl13
import Derived.Test.YtmhojpipmllphaaGreatDoorQpl14
import Derived.Test.YtmhojpipmllphaaGreatDoorQpl15
import Derived.Test.YtmhojpipmllphaaGreatDoorQpl16
import Derived.Test.YtmhojpipmllphaaGreatDoorQpl17
import Derived.Test.YtmhojpipmllphaaGreatDoorQpl18
import Derived.Test.YtmhojpipmllphaaGreatDoorQpl19
import Derived.Test.YtmhojpipmllphaaGreatDoorQpl20
import Derived.Test.YtmhojpipmllphaaGreatDoorQpl21
import Derived.Test.YtmhojpipmllphaaGreatDoorQpl22
import Derived.Test.YtmhojpipmllphaaGreatDoorQpl23
import Derived.Test.YtmhojpipmllphaaGreatDoorQpl26
import Derived.Test.YtmhojpipmllphaaGreatDoorQpl27
import Derived.Test.YtmhojpipmllphaaGreatDoorQpl28
import Derived.Test.YtmhojpipmllphaaGreatDoorQpl29
import Derived.Test.YtmhojpipmllphaaGreatDoorQpl30
import Derived.Test.YtmhojpipmllphaaGreatDoorQpl31
import Derived.Test.YtmhojpipmllphaaGreatDoorQpl32
import Derived.Test.YtmhojpipmllphaaGreatDoorQpl33
namespace Go.Proofs.YtmhojpipmllphaaGreatDoor
open Go.RowKit Go.Deep
set_option linter.unusedVariables false
set_option linter.unusedSimpArgs false

/-- From the i-th on, where something is so first; the length, if nowhere. -/
def seekI (l : List PlM) (F : PlM → Bool) (i : Nat) : Nat := i + ((l.drop i).takeWhile fun p => !F p).length
theorem seekI_eq : ∀ {l : List PlM} {F : PlM → Bool} {i j : Nat}, i ≤ j → j ≤ l.length → (∀ q p, i ≤ q → q < j → l[q]? = some p → F p = false) → (∀ p, l[j]? = some p → F p = true) → seekI l F i = j := by
  intro l F i j hij hj h1 h2
  obtain ⟨d, rfl⟩ : ∃ d, j = i + d := ⟨j - i, by omega⟩
  unfold seekI
  congr 1
  have key : ∀ (m : List PlM) (d : Nat), d ≤ m.length → (∀ q p, q < d → m[q]? = some p → F p = false) → (∀ p, m[d]? = some p → F p = true) → (m.takeWhile fun p => !F p).length = d := by
    intro m
    induction m with
    | nil => intro d hd _ _; simp at hd; subst hd; rfl
    | cons a m ih =>
      intro d hd g1 g2
      cases d with
      | zero =>
        have := g2 a rfl
        rw [List.takeWhile_cons, this]
        rfl
      | succ d =>
        have := g1 0 a (Nat.succ_pos _) rfl
        rw [List.takeWhile_cons, this]
        show (_ :: _).length = _
        rw [List.length_cons, ih d (by simpa using hd) (fun q p hq hp => g1 (q + 1) p (by omega) hp) (fun p hp => g2 p hp)]
  refine key (l.drop i) d (by rw [List.length_drop]; omega) (fun q p hq hp => h1 (i + q) p (by omega) (by omega) ?_) (fun p hp => h2 p ?_)
  · rw [List.getElem?_drop] at hp; exact hp
  · rw [List.getElem?_drop] at hp; exact hp
/-- The closure. -/
def funSeek (z : Int) (p : PlM) : Bool := decide (z ≤ p.d)
set_option maxRecDepth 100000 in
theorem cloSeek_any (p : PlM) (bb : Nat) (z : Int) (w : World) (hb : w.cell? ⟨bb, 0, none⟩ = some (.int .i64 z)) : Calls Tryz.prog 34 #[p.val, .pointer (some ⟨bb, 0, none⟩)] w fun e w' => e = .returned (.bool (funSeek z p)) ∧ Below w.heap.size w w' := by
  obtain ⟨a, b, c, d⟩ := p
  unfold PlM.val funSeek
  dsimp only
  have hlt : bb < w.heap.size := World.block_lt_of_cell? _ _ hb
  have HB : Hid (∀ y, Below w.heap.size w ((w.alloc (.cells #[.int .i64 a, .int .i64 b, .int .i64 c, .int .i64 d] 32)).drewN y)) := Lib.hid (fun y => below_drewN ((Below.refl _ _).alloc (Nat.le_refl _) _) y)
  go_enter Tryz.func34, Tryz.ntmps34
  go_wp2_with fail
  go_ret
  exact ⟨rfl, HB.out 0⟩
set_option maxHeartbeats 4000000 in
set_option maxRecDepth 100000 in
theorem seekSeek_any {w0 w : World} {g : Gh} {st : St} {n : Nat} {k : QK} {x : LnM} (hc : Calm n st) (h : LnOk w0 w g st n k x) (hn : n ≤ 100000) (hlo : x.lo ≤ x.least) (bb : Nat) (z : Int) (hz : w.cell? ⟨bb, 0, none⟩ = some (.int .i64 z)) :
    Calls Tryz.prog 33 #[.pointer (some ⟨x.lb, 0, none⟩), .func (.func 34) #[] #[.pointer (some ⟨bb, 0, none⟩)]] w fun e w' => e = .returned (.tuple #[.int .i64 ((x.base + seekI x.es (funSeek z) (x.least - x.base) : Nat) : Int), .int .i64 0]) ∧ Below w.heap.size w w' := by
  obtain ⟨res, hres⟩ : ∃ y, y = x.base + seekI x.es (funSeek z) (x.least - x.base) := ⟨_, rfl⟩
  rw [← hres]
  have HRES := Lib.hid hres
  have hle := h.le
  have hltt := h.lt
  have hbb := h.bb
  have hel := h.el
  obtain ⟨i0, hi0⟩ : ∃ y, y = x.least - x.base := ⟨_, rfl⟩
  obtain ⟨b, hb⟩ : ∃ y, y = x.base := ⟨_, rfl⟩
  obtain ⟨len, hlen⟩ : ∃ y, y = x.es.length := ⟨_, rfl⟩
  have hleast : x.least = b + i0 := by omega
  obtain ⟨lb, hlb⟩ : ∃ y, y = x.lb := ⟨_, rfl⟩
  have HF : Hid (∀ W, Below w.heap.size w W → Calls Tryz.prog 31 #[.pointer (some ⟨lb, 0, none⟩)] W fun e w' => e = .returned (.int .i64 ((b + i0 : Nat) : Int)) ∧ W = w') := Lib.hid (fun W hW => by rw [← hleast, hlb]; exact qfirst_any (h.new (Chg.of_below hW)))
  have HN : Hid (∀ W, Below w.heap.size w W → Calls Tryz.prog 27 #[.pointer (some ⟨lb, 0, none⟩)] W fun e w' => e = .returned (.int .i64 ((b + len : Nat) : Int)) ∧ ∃ q, w' = W.drewN q) := Lib.hid (fun W hW => by rw [hb, hlen, hlb]; exact qnext_any (h.new (Chg.of_below hW)) hn)
  have HE : Hid (∀ W, Below w.heap.size w W → ∀ i p, i0 ≤ i → x.es[i]? = some p → Calls Tryz.prog 32 #[.pointer (some ⟨lb, 0, none⟩), .int .i64 ((b + i : Nat) : Int)] W fun e w' => e = .returned (.tuple #[p.val, .int .i64 0]) ∧ Below W.heap.size W w') := Lib.hid (fun W hW i p hi hp => by rw [hb, hlb]; exact qentry_any hc (h.new (Chg.of_below hW)) hn ⟨hp, by omega⟩)
  have HZ : Hid (∀ W, Below w.heap.size w W → W.cell? ⟨bb, 0, none⟩ = some (.int .i64 z)) := Lib.hid (fun W hW => (hW.cell (p := ⟨bb, 0, none⟩) (World.block_lt_of_cell? _ _ hz)).trans hz)
  have HI0 := Lib.hid hi0
  have HBB := Lib.hid hb
  have HLEN := Lib.hid hlen
  have hb2 : b ≤ 1099511627776 := by omega
  have hl2 : len ≤ 100000 := by omega
  have hi2 : i0 ≤ len := by omega
  rw [← hlb]
  clear hres hc h hn hlo hz hle hltt hbb hel hi0 hb hlen hleast hlb
  go_enter Tryz.func33, Tryz.ntmps33
  go_wp2_with fail
  refine (HF.out w (Below.refl _ _)).mono ?_
  rintro e w1 ⟨rfl, rfl⟩
  go_wp2_with fail
  go_loopw [6] (fun v wr => ∃ i, i0 ≤ i ∧ i ≤ len ∧ v = .int .i64 ((b + i : Nat) : Int) ∧ (∀ j p, i0 ≤ j → j < i → x.es[j]? = some p → funSeek z p = false) ∧ Below w.heap.size w wr) (fun v _ => (b + len) - (intOf v).toNat)
  case atStart => exact ⟨i0, Nat.le_refl _, hi2, rfl, fun j p h1 h2 => by omega, Below.refl _ _⟩
  case round =>
    obtain ⟨i, h1, h2, rfl, h3, hbl⟩ := hrel
    have HB := Lib.hid hbl
    have H3 := Lib.hid h3
    obtain ⟨a, ha⟩ : ∃ a, a = b + i := ⟨_, rfl⟩
    obtain ⟨nx, hnx⟩ : ∃ a, a = b + len := ⟨_, rfl⟩
    have hN := HN.out wr hbl
    rw [← hnx] at hN
    rw [← ha]
    have HNN := Lib.hid hN
    have ha2 : a ≤ 1099511727776 := by omega
    clear h3 hbl hN
    by_cases hlt : i < len
    · obtain ⟨p, hp⟩ : ∃ p, x.es[i]? = some p := ⟨_, List.getElem?_eq_getElem (by rw [← HLEN.out]; exact hlt)⟩
      have hal : a < nx := by omega
      have HA := Lib.hid ha
      have HP := Lib.hid hp
      clear ha hp hnx
      go_wp2_with fail
      refine HNN.out.mono ?_
      rintro e w2 ⟨rfl, y, rfl⟩
      have HB2 := Lib.hid (below_drewN HB.out y)
      have hE := HE.out _ HB2.out i p h1 HP.out
      rw [← HA.out] at hE
      obtain ⟨f, hf⟩ : ∃ f, f = funSeek z p := ⟨_, rfl⟩
      have hC := fun W (hW : Below w.heap.size w W) => cloSeek_any p bb z W (HZ.out W hW)
      rw [← hf] at hC
      have HFF := Lib.hid hf
      obtain ⟨pa, pb, pc, pd⟩ := p
      unfold PlM.val at hE hC
      dsimp only at hE hC
      have HEE := Lib.hid hE
      have HC := Lib.hid hC
      clear hE hC hf
      go_wp2_with fail
      refine HEE.out.mono ?_
      rintro e w3 ⟨rfl, hb3⟩
      obtain ⟨w4, hw4⟩ : ∃ W, W = w3.alloc (.cells #[.int .i64 pa, .int .i64 pb, .int .i64 pc, .int .i64 pd] 32) := ⟨_, rfl⟩
      have hb4 : Below w.heap.size w w4 := by rw [hw4]; exact (HB2.out.trans (hb3.mono HB2.out.size)).alloc (Nat.le_trans HB2.out.size hb3.size) _
      have HB4 := Lib.hid hb4
      have HW4 := Lib.hid hw4
      clear hb3 hb4 hw4
      go_wp2_with fail
      rw [← HW4.out]
      refine (HC.out w4 HB4.out).mono ?_
      rintro e w5 ⟨rfl, hb5⟩
      have HB5 := Lib.hid (HB4.out.trans (hb5.mono HB4.out.size))
      clear hb5
      cases f
      · go_wp2_with fail
        refine ⟨⟨i + 1, by omega, by omega, by have := HA.out; rw [this]; go_num, fun j p hj1 hj2 hp => ?_, HB5.out⟩, ?_⟩
        · by_cases hji : j = i
          · subst hji
            have hpp := HP.out
            rw [hpp] at hp
            cases hp
            exact HFF.out.symm
          · exact H3.out j p hj1 (by omega) hp
        · have := HA.out
          simp [intOf]
          omega
      · have hR : res = a := by
          rw [HRES.out, HA.out, HBB.out]
          congr 1
          rw [← HI0.out]
          refine seekI_eq h1 (by rw [← HLEN.out]; exact h2) (fun q p hq1 hq2 hp => H3.out q p hq1 hq2 hp) (fun p hp => ?_)
          have hpp := HP.out
          rw [hpp] at hp
          cases hp
          exact HFF.out.symm
        subst hR
        go_wp2_with fail
        go_ret2
        exact ⟨rfl, HB5.out⟩
    · have hR : res = a := by
        have : i = len := by omega
        rw [HRES.out, ha, HBB.out]
        congr 1
        rw [← HI0.out]
        refine seekI_eq h1 (by rw [← HLEN.out]; exact h2) (fun q p hq1 hq2 hp => H3.out q p hq1 hq2 hp) (fun p hp => ?_)
        have := (List.getElem?_eq_some_iff.1 hp).1
        have := HLEN.out
        omega
      have hal : ¬ a < nx := by omega
      have HA := Lib.hid ha
      subst hR
      clear ha hnx
      go_wp2_with fail
      refine HNN.out.mono ?_
      rintro e w2 ⟨rfl, y, rfl⟩
      have HB2 := Lib.hid (below_drewN HB.out y)
      go_wp2_with fail
      go_ret2
      exact ⟨rfl, HB2.out⟩
end Go.Proofs.YtmhojpipmllphaaGreatDoor

namespace Go.Proofs.YtmhojpipmllphaaGreatDoor
open Go.RowKit Go.Deep
set_option linter.unusedVariables false
set_option linter.unusedSimpArgs false

/-- The closure. -/
def funTrim (z : Int) (p : PlM) : Bool := decide (z ≤ p.a)
set_option maxRecDepth 100000 in
theorem cloTrim_any (p : PlM) (bb : Nat) (z : Int) (w : World) (hb : w.cell? ⟨bb, 0, none⟩ = some (.int .i64 z)) : Calls Tryz.prog 35 #[p.val, .pointer (some ⟨bb, 0, none⟩)] w fun e w' => e = .returned (.bool (funTrim z p)) ∧ Below w.heap.size w w' := by
  obtain ⟨a, b, c, d⟩ := p
  unfold PlM.val funTrim
  dsimp only
  have hlt : bb < w.heap.size := World.block_lt_of_cell? _ _ hb
  have HB : Hid (∀ y, Below w.heap.size w ((w.alloc (.cells #[.int .i64 a, .int .i64 b, .int .i64 c, .int .i64 d] 32)).drewN y)) := Lib.hid (fun y => below_drewN ((Below.refl _ _).alloc (Nat.le_refl _) _) y)
  go_enter Tryz.func35, Tryz.ntmps35
  go_wp2_with fail
  go_ret
  exact ⟨rfl, HB.out 0⟩
set_option maxHeartbeats 4000000 in
set_option maxRecDepth 100000 in
theorem seekTrim_any {w0 w : World} {g : Gh} {st : St} {n : Nat} {k : QK} {x : LnM} (hc : Calm n st) (h : LnOk w0 w g st n k x) (hn : n ≤ 100000) (hlo : x.lo ≤ x.least) (bb : Nat) (z : Int) (hz : w.cell? ⟨bb, 0, none⟩ = some (.int .i64 z)) :
    Calls Tryz.prog 33 #[.pointer (some ⟨x.lb, 0, none⟩), .func (.func 35) #[] #[.pointer (some ⟨bb, 0, none⟩)]] w fun e w' => e = .returned (.tuple #[.int .i64 ((x.base + seekI x.es (funTrim z) (x.least - x.base) : Nat) : Int), .int .i64 0]) ∧ Below w.heap.size w w' := by
  obtain ⟨res, hres⟩ : ∃ y, y = x.base + seekI x.es (funTrim z) (x.least - x.base) := ⟨_, rfl⟩
  rw [← hres]
  have HRES := Lib.hid hres
  have hle := h.le
  have hltt := h.lt
  have hbb := h.bb
  have hel := h.el
  obtain ⟨i0, hi0⟩ : ∃ y, y = x.least - x.base := ⟨_, rfl⟩
  obtain ⟨b, hb⟩ : ∃ y, y = x.base := ⟨_, rfl⟩
  obtain ⟨len, hlen⟩ : ∃ y, y = x.es.length := ⟨_, rfl⟩
  have hleast : x.least = b + i0 := by omega
  obtain ⟨lb, hlb⟩ : ∃ y, y = x.lb := ⟨_, rfl⟩
  have HF : Hid (∀ W, Below w.heap.size w W → Calls Tryz.prog 31 #[.pointer (some ⟨lb, 0, none⟩)] W fun e w' => e = .returned (.int .i64 ((b + i0 : Nat) : Int)) ∧ W = w') := Lib.hid (fun W hW => by rw [← hleast, hlb]; exact qfirst_any (h.new (Chg.of_below hW)))
  have HN : Hid (∀ W, Below w.heap.size w W → Calls Tryz.prog 27 #[.pointer (some ⟨lb, 0, none⟩)] W fun e w' => e = .returned (.int .i64 ((b + len : Nat) : Int)) ∧ ∃ q, w' = W.drewN q) := Lib.hid (fun W hW => by rw [hb, hlen, hlb]; exact qnext_any (h.new (Chg.of_below hW)) hn)
  have HE : Hid (∀ W, Below w.heap.size w W → ∀ i p, i0 ≤ i → x.es[i]? = some p → Calls Tryz.prog 32 #[.pointer (some ⟨lb, 0, none⟩), .int .i64 ((b + i : Nat) : Int)] W fun e w' => e = .returned (.tuple #[p.val, .int .i64 0]) ∧ Below W.heap.size W w') := Lib.hid (fun W hW i p hi hp => by rw [hb, hlb]; exact qentry_any hc (h.new (Chg.of_below hW)) hn ⟨hp, by omega⟩)
  have HZ : Hid (∀ W, Below w.heap.size w W → W.cell? ⟨bb, 0, none⟩ = some (.int .i64 z)) := Lib.hid (fun W hW => (hW.cell (p := ⟨bb, 0, none⟩) (World.block_lt_of_cell? _ _ hz)).trans hz)
  have HI0 := Lib.hid hi0
  have HBB := Lib.hid hb
  have HLEN := Lib.hid hlen
  have hb2 : b ≤ 1099511627776 := by omega
  have hl2 : len ≤ 100000 := by omega
  have hi2 : i0 ≤ len := by omega
  rw [← hlb]
  clear hres hc h hn hlo hz hle hltt hbb hel hi0 hb hlen hleast hlb
  go_enter Tryz.func33, Tryz.ntmps33
  go_wp2_with fail
  refine (HF.out w (Below.refl _ _)).mono ?_
  rintro e w1 ⟨rfl, rfl⟩
  go_wp2_with fail
  go_loopw [6] (fun v wr => ∃ i, i0 ≤ i ∧ i ≤ len ∧ v = .int .i64 ((b + i : Nat) : Int) ∧ (∀ j p, i0 ≤ j → j < i → x.es[j]? = some p → funTrim z p = false) ∧ Below w.heap.size w wr) (fun v _ => (b + len) - (intOf v).toNat)
  case atStart => exact ⟨i0, Nat.le_refl _, hi2, rfl, fun j p h1 h2 => by omega, Below.refl _ _⟩
  case round =>
    obtain ⟨i, h1, h2, rfl, h3, hbl⟩ := hrel
    have HB := Lib.hid hbl
    have H3 := Lib.hid h3
    obtain ⟨a, ha⟩ : ∃ a, a = b + i := ⟨_, rfl⟩
    obtain ⟨nx, hnx⟩ : ∃ a, a = b + len := ⟨_, rfl⟩
    have hN := HN.out wr hbl
    rw [← hnx] at hN
    rw [← ha]
    have HNN := Lib.hid hN
    have ha2 : a ≤ 1099511727776 := by omega
    clear h3 hbl hN
    by_cases hlt : i < len
    · obtain ⟨p, hp⟩ : ∃ p, x.es[i]? = some p := ⟨_, List.getElem?_eq_getElem (by rw [← HLEN.out]; exact hlt)⟩
      have hal : a < nx := by omega
      have HA := Lib.hid ha
      have HP := Lib.hid hp
      clear ha hp hnx
      go_wp2_with fail
      refine HNN.out.mono ?_
      rintro e w2 ⟨rfl, y, rfl⟩
      have HB2 := Lib.hid (below_drewN HB.out y)
      have hE := HE.out _ HB2.out i p h1 HP.out
      rw [← HA.out] at hE
      obtain ⟨f, hf⟩ : ∃ f, f = funTrim z p := ⟨_, rfl⟩
      have hC := fun W (hW : Below w.heap.size w W) => cloTrim_any p bb z W (HZ.out W hW)
      rw [← hf] at hC
      have HFF := Lib.hid hf
      obtain ⟨pa, pb, pc, pd⟩ := p
      unfold PlM.val at hE hC
      dsimp only at hE hC
      have HEE := Lib.hid hE
      have HC := Lib.hid hC
      clear hE hC hf
      go_wp2_with fail
      refine HEE.out.mono ?_
      rintro e w3 ⟨rfl, hb3⟩
      obtain ⟨w4, hw4⟩ : ∃ W, W = w3.alloc (.cells #[.int .i64 pa, .int .i64 pb, .int .i64 pc, .int .i64 pd] 32) := ⟨_, rfl⟩
      have hb4 : Below w.heap.size w w4 := by rw [hw4]; exact (HB2.out.trans (hb3.mono HB2.out.size)).alloc (Nat.le_trans HB2.out.size hb3.size) _
      have HB4 := Lib.hid hb4
      have HW4 := Lib.hid hw4
      clear hb3 hb4 hw4
      go_wp2_with fail
      rw [← HW4.out]
      refine (HC.out w4 HB4.out).mono ?_
      rintro e w5 ⟨rfl, hb5⟩
      have HB5 := Lib.hid (HB4.out.trans (hb5.mono HB4.out.size))
      clear hb5
      cases f
      · go_wp2_with fail
        refine ⟨⟨i + 1, by omega, by omega, by have := HA.out; rw [this]; go_num, fun j p hj1 hj2 hp => ?_, HB5.out⟩, ?_⟩
        · by_cases hji : j = i
          · subst hji
            have hpp := HP.out
            rw [hpp] at hp
            cases hp
            exact HFF.out.symm
          · exact H3.out j p hj1 (by omega) hp
        · have := HA.out
          simp [intOf]
          omega
      · have hR : res = a := by
          rw [HRES.out, HA.out, HBB.out]
          congr 1
          rw [← HI0.out]
          refine seekI_eq h1 (by rw [← HLEN.out]; exact h2) (fun q p hq1 hq2 hp => H3.out q p hq1 hq2 hp) (fun p hp => ?_)
          have hpp := HP.out
          rw [hpp] at hp
          cases hp
          exact HFF.out.symm
        subst hR
        go_wp2_with fail
        go_ret2
        exact ⟨rfl, HB5.out⟩
    · have hR : res = a := by
        have : i = len := by omega
        rw [HRES.out, ha, HBB.out]
        congr 1
        rw [← HI0.out]
        refine seekI_eq h1 (by rw [← HLEN.out]; exact h2) (fun q p hq1 hq2 hp => H3.out q p hq1 hq2 hp) (fun p hp => ?_)
        have := (List.getElem?_eq_some_iff.1 hp).1
        have := HLEN.out
        omega
      have hal : ¬ a < nx := by omega
      have HA := Lib.hid ha
      subst hR
      clear ha hnx
      go_wp2_with fail
      refine HNN.out.mono ?_
      rintro e w2 ⟨rfl, y, rfl⟩
      have HB2 := Lib.hid (below_drewN HB.out y)
      go_wp2_with fail
      go_ret2
      exact ⟨rfl, HB2.out⟩
end Go.Proofs.YtmhojpipmllphaaGreatDoor

namespace Go.Proofs.YtmhojpipmllphaaGreatDoor
open Go.RowKit Go.Deep
set_option linter.unusedVariables false
set_option linter.unusedSimpArgs false

set_option maxHeartbeats 1000000 in
set_option maxRecDepth 100000 in
theorem qleast_any {w0 w : World} {qb : Nat} {mv : Option Nat} {g : Gh} {st : St} {n : Nat} {L : List (QK × LnM)} (h : QsI w0 w qb mv g st n L) (hn : n ≤ 100000) (k : QK) :
    Calls Tryz.prog 17 #[.pointer (some ⟨qb, 0, none⟩), .string k.1.1, .int .i64 k.1.2] w fun e w' => e = .returned (.int .i64 (((lnD L k).least : Nat) : Int)) ∧ Below w.heap.size w w' := by
  have hF := qfind_any h.q.at_ h.map k
  rw [getK_lbs] at hF
  obtain ⟨res, hres⟩ : ∃ y, y = (lnD L k).least := ⟨_, rfl⟩
  rw [← hres]
  obtain ⟨⟨t, q⟩, hk1, hk2⟩ := k
  dsimp only at hF ⊢
  cases hg : getK L ⟨(t, q), hk1, hk2⟩ with
  | none =>
    have hr0 : res = 0 := by rw [hres]; unfold lnD; rw [hg]; rfl
    subst hr0
    rw [hg] at hF
    unfold optV at hF
    dsimp only [Option.map_none] at hF
    have HF := Lib.hid hF
    have HN := Lib.hid (fun W => qfirst_nil W)
    clear hF hg hres h
    go_enter Tryz.func17, Tryz.ntmps17
    go_wp2_with fail
    refine HF.out.mono ?_
    rintro e w1 ⟨rfl, hb1⟩
    have HB := Lib.hid hb1
    clear hb1
    go_wp2_with fail
    refine (HN.out _).mono ?_
    rintro e w2 ⟨rfl, rfl⟩
    go_wp2_with fail
    go_ret
    exact ⟨rfl, HB.out⟩
  | some x =>
    have hx : lnD L ⟨(t, q), hk1, hk2⟩ = x := by unfold lnD; rw [hg]; rfl
    rw [hx] at hres
    rw [hg] at hF
    unfold optV at hF
    dsimp only [Option.map_some] at hF
    have HF := Lib.hid hF
    have HN : Hid (∀ W, Below w.heap.size w W → Calls Tryz.prog 31 #[.pointer (some ⟨x.lb, 0, none⟩)] W fun e w' => e = .returned (.int .i64 (res : Int)) ∧ ∃ y, w' = W.drewN y) := Lib.hid (fun W hW => by
      rw [hres]
      exact (qfirst_any ((h.q.ln _ (getK_mem hg)).new (Chg.of_below hW))).mono fun e w' hh => ⟨hh.1, 0, hh.2.symm⟩)
    clear hF hg hres h hx
    go_enter Tryz.func17, Tryz.ntmps17
    go_wp2_with fail
    refine HF.out.mono ?_
    rintro e w1 ⟨rfl, hb1⟩
    have HB := Lib.hid hb1
    clear hb1
    go_wp2_with fail
    refine (HN.out _ HB.out).mono ?_
    rintro e w2 ⟨rfl, y, rfl⟩
    go_wp2_with fail
    go_ret
    exact ⟨rfl, below_drewN HB.out y⟩
set_option maxHeartbeats 1000000 in
set_option maxRecDepth 100000 in
theorem qnextq_any {w0 w : World} {qb : Nat} {mv : Option Nat} {g : Gh} {st : St} {n : Nat} {L : List (QK × LnM)} (h : QsI w0 w qb mv g st n L) (hn : n ≤ 100000) (k : QK) :
    Calls Tryz.prog 18 #[.pointer (some ⟨qb, 0, none⟩), .string k.1.1, .int .i64 k.1.2] w fun e w' => e = .returned (.int .i64 (((lnD L k).base + (lnD L k).es.length : Nat) : Int)) ∧ Below w.heap.size w w' := by
  have hF := qfind_any h.q.at_ h.map k
  rw [getK_lbs] at hF
  obtain ⟨res, hres⟩ : ∃ y, y = (lnD L k).base + (lnD L k).es.length := ⟨_, rfl⟩
  rw [← hres]
  obtain ⟨⟨t, q⟩, hk1, hk2⟩ := k
  dsimp only at hF ⊢
  cases hg : getK L ⟨(t, q), hk1, hk2⟩ with
  | none =>
    have hr0 : res = 0 := by rw [hres]; unfold lnD; rw [hg]; rfl
    subst hr0
    rw [hg] at hF
    unfold optV at hF
    dsimp only [Option.map_none] at hF
    have HF := Lib.hid hF
    have HN := Lib.hid (fun W => qnext_nil W)
    clear hF hg hres h
    go_enter Tryz.func18, Tryz.ntmps18
    go_wp2_with fail
    refine HF.out.mono ?_
    rintro e w1 ⟨rfl, hb1⟩
    have HB := Lib.hid hb1
    clear hb1
    go_wp2_with fail
    refine (HN.out _).mono ?_
    rintro e w2 ⟨rfl, rfl⟩
    go_wp2_with fail
    go_ret
    exact ⟨rfl, HB.out⟩
  | some x =>
    have hx : lnD L ⟨(t, q), hk1, hk2⟩ = x := by unfold lnD; rw [hg]; rfl
    rw [hx] at hres
    rw [hg] at hF
    unfold optV at hF
    dsimp only [Option.map_some] at hF
    have HF := Lib.hid hF
    have HN : Hid (∀ W, Below w.heap.size w W → Calls Tryz.prog 27 #[.pointer (some ⟨x.lb, 0, none⟩)] W fun e w' => e = .returned (.int .i64 (res : Int)) ∧ ∃ y, w' = W.drewN y) := Lib.hid (fun W hW => by
      rw [hres]
      exact qnext_any ((h.q.ln _ (getK_mem hg)).new (Chg.of_below hW)) hn)
    clear hF hg hres h hx
    go_enter Tryz.func18, Tryz.ntmps18
    go_wp2_with fail
    refine HF.out.mono ?_
    rintro e w1 ⟨rfl, hb1⟩
    have HB := Lib.hid hb1
    clear hb1
    go_wp2_with fail
    refine (HN.out _ HB.out).mono ?_
    rintro e w2 ⟨rfl, y, rfl⟩
    go_wp2_with fail
    go_ret
    exact ⟨rfl, below_drewN HB.out y⟩
set_option maxHeartbeats 1000000 in
set_option maxRecDepth 100000 in
theorem seekSeek_nil (bb : Nat) (w : World) : Calls Tryz.prog 33 #[.pointer none, .func (.func 34) #[] #[.pointer (some ⟨bb, 0, none⟩)]] w fun e w' => e = .returned (.tuple #[.int .i64 0, .int .i64 0]) ∧ w = w' := by
  have HF := Lib.hid (fun W => qfirst_nil W)
  have HN := Lib.hid (fun W => qnext_nil W)
  go_enter Tryz.func33, Tryz.ntmps33
  go_wp2_with fail
  refine (HF.out w).mono ?_
  rintro e w1 ⟨rfl, rfl⟩
  go_wp2_with fail
  go_loopw [6] (fun v wr => v = .int .i64 0 ∧ wr = w) (fun v _ => 0)
  case atStart => exact ⟨rfl, rfl⟩
  case round =>
    obtain ⟨rfl, rfl⟩ := hrel
    go_wp2_with fail
    refine (HN.out _).mono ?_
    rintro e w1 ⟨rfl, rfl⟩
    go_wp2_with fail
    go_ret2
    exact ⟨rfl, rfl⟩
def seekL (x : LnM) (z : Int) : Nat := x.base + seekI x.es (funSeek z) (x.least - x.base)
set_option maxHeartbeats 1000000 in
set_option maxRecDepth 100000 in
theorem qseek_any {w0 w : World} {qb : Nat} {mv : Option Nat} {g : Gh} {st : St} {n : Nat} {L : List (QK × LnM)} (h : QsI w0 w qb mv g st n L) (hn : n ≤ 100000) (k : QK) (z : Int) :
    Calls Tryz.prog 13 #[.pointer (some ⟨qb, 0, none⟩), .string k.1.1, .int .i64 k.1.2, .int .i64 z] w fun e w' => e = .returned (.int .i64 ((seekL (lnD L k) z : Nat) : Int)) ∧ Below w.heap.size w w' := by
  obtain ⟨W0, hW0⟩ : ∃ W, W = w.alloc (.cells #[.int .i64 z] 3) := ⟨_, rfl⟩
  have hb0 : Below w.heap.size w W0 := hW0 ▸ (Below.refl _ _).alloc (Nat.le_refl _) _
  have k0 : W0.cell? ⟨w.heap.size, 0, none⟩ = some (.int .i64 z) := by rw [hW0]; simp
  have h0 := h.new (Chg.of_below hb0 : Chg (fun _ => False) w W0)
  have hF := qfind_any h0.q.at_ h0.map k
  rw [getK_lbs] at hF
  obtain ⟨res, hres⟩ : ∃ y, y = seekL (lnD L k) z := ⟨_, rfl⟩
  rw [← hres]
  obtain ⟨⟨t, q⟩, hk1, hk2⟩ := k
  dsimp only at hF ⊢
  have HW0 := Lib.hid hW0
  have HB0 := Lib.hid hb0
  have HS : Hid (∀ W, Below W0.heap.size W0 W → Calls Tryz.prog 33 #[optV ((getK L ⟨(t, q), hk1, hk2⟩).map (·.lb)), .func (.func 34) #[] #[.pointer (some ⟨w.heap.size, 0, none⟩)]] W fun e w' => e = .returned (.tuple #[.int .i64 (res : Int), .int .i64 0]) ∧ Below W.heap.size W w') := Lib.hid (fun W hW => by
    cases hg : getK L ⟨(t, q), hk1, hk2⟩ with
    | none =>
      have hr0 : res = 0 := by rw [hres]; unfold lnD; rw [hg]; rfl
      rw [hr0]
      exact (seekSeek_nil w.heap.size W).mono fun e w' hh => ⟨hh.1, hh.2 ▸ Below.refl _ _⟩
    | some x =>
      have hx : lnD L ⟨(t, q), hk1, hk2⟩ = x := by unfold lnD; rw [hg]; rfl
      rw [hres, hx]
      have hm := getK_mem hg
      have hk1 := (hW.cell (p := ⟨w.heap.size, 0, none⟩) (World.block_lt_of_cell? _ _ k0)).trans k0
      exact seekSeek_any h.q.calm ((h0.q.ln _ hm).new (Chg.of_below hW)) hn (h.lo _ hm) w.heap.size z hk1)
  obtain ⟨o, ho⟩ : ∃ o, o = optV ((getK L ⟨(t, q), hk1, hk2⟩).map (·.lb)) := ⟨_, rfl⟩
  rw [← ho] at HS hF
  have HF := Lib.hid hF
  clear hF hres h h0 hW0 hb0 k0 ho
  go_enter Tryz.func13, Tryz.ntmps13
  go_upto_region 1 with fail
  rw [← HW0.out]
  go_wp2_with fail
  refine HF.out.mono ?_
  rintro e w1 ⟨rfl, hb1⟩
  have HB1 := Lib.hid hb1
  clear hb1
  go_wp2_with fail
  refine (HS.out _ HB1.out).mono ?_
  rintro e w2 ⟨rfl, hb2⟩
  have HB2 := Lib.hid ((HB0.out.trans (HB1.out.mono HB0.out.size)).trans (hb2.mono (Nat.le_trans HB0.out.size HB1.out.size)))
  clear hb2
  go_wp2_with fail
  go_ret
  exact ⟨rfl, HB2.out⟩
end Go.Proofs.YtmhojpipmllphaaGreatDoor

namespace Go.Proofs.YtmhojpipmllphaaGreatDoor
open Go.RowKit Go.Deep
set_option linter.unusedVariables false
set_option linter.unusedSimpArgs false

def zeroP : PlM := ⟨0, 0, 0, 0⟩
/-- What At tells. -/
def AtTo (p : PlM) (r : Int) (w : World) (e : Ending) (w' : World) : Prop := e = .returned (.tuple #[p.val, .int .i64 r]) ∧ Below w.heap.size w w'
set_option maxHeartbeats 2000000 in
set_option maxRecDepth 100000 in
theorem qat_trim {w0 w : World} {qb : Nat} {mv : Option Nat} {g : Gh} {st : St} {n : Nat} {L : List (QK × LnM)} (h : QsI w0 w qb mv g st n L) (hn : n ≤ 100000) (k : QK) (a : Int) (ha : 0 ≤ a) (hl : a < ((lnD L k).least : Nat)) :
    Calls Tryz.prog 12 #[.pointer (some ⟨qb, 0, none⟩), .string k.1.1, .int .i64 k.1.2, .int .i64 a] w (AtTo zeroP 14 w) := by
  obtain ⟨ls, hls⟩ : ∃ y, y = (lnD L k).least := ⟨_, rfl⟩
  obtain ⟨nx, hnx⟩ : ∃ y, y = (lnD L k).base + (lnD L k).es.length := ⟨_, rfl⟩
  rw [← hls] at hl
  obtain ⟨W0, hW0⟩ : ∃ W, W = w.alloc (.cells #[.int .i64 0, .int .i64 0, .int .i64 0, .int .i64 0] 32) := ⟨_, rfl⟩
  have hb0 : Below w.heap.size w W0 := hW0 ▸ (Below.refl _ _).alloc (Nat.le_refl _) _
  have hr : W0.rowIs w.heap.size 32 4 (fun _ => .int .i64 0) := hW0 ▸ row4 w 32
  have h0 := h.new (Chg.of_below hb0 : Chg (fun _ => False) w W0)
  have hF := qfind_any h0.q.at_ h0.map k
  rw [getK_lbs] at hF
  have HFI : Hid (∀ W, Below W0.heap.size W0 W → Calls Tryz.prog 31 #[optV ((getK L k).map (·.lb))] W fun e w' => e = .returned (.int .i64 (ls : Int)) ∧ W = w') := Lib.hid (fun W hW => by
    cases hg : getK L k with
    | none =>
      have : ls = 0 := by rw [hls]; unfold lnD; rw [hg]; rfl
      rw [this]
      exact qfirst_nil W
    | some x =>
      have : ls = x.least := by rw [hls]; unfold lnD; rw [hg]; rfl
      rw [this]
      exact qfirst_any ((h0.q.ln _ (getK_mem hg)).new (Chg.of_below hW)))
  have HNX : Hid (∀ W, Below W0.heap.size W0 W → Calls Tryz.prog 27 #[optV ((getK L k).map (·.lb))] W fun e w' => e = .returned (.int .i64 (nx : Int)) ∧ ∃ y, w' = W.drewN y) := Lib.hid (fun W hW => by
    cases hg : getK L k with
    | none =>
      have : nx = 0 := by rw [hnx]; unfold lnD; rw [hg]; rfl
      rw [this]
      exact (qnext_nil W).mono fun e w' hh => ⟨hh.1, 0, hh.2.symm⟩
    | some x =>
      have : nx = x.base + x.es.length := by rw [hnx]; unfold lnD; rw [hg]; rfl
      rw [this]
      exact qnext_any ((h0.q.ln _ (getK_mem hg)).new (Chg.of_below hW)) hn)
  obtain ⟨⟨t, q⟩, hk1, hk2⟩ := k
  obtain ⟨o, ho⟩ : ∃ o, o = optV ((getK L ⟨(t, q), hk1, hk2⟩).map (·.lb)) := ⟨_, rfl⟩
  dsimp only at hF ⊢
  rw [← ho] at hF HFI HNX 
  have HF := Lib.hid hF
  have HW0 := Lib.hid hW0
  have HB0 := Lib.hid hb0
  have HR0 := Lib.hid hr
  clear hF h h0 hW0 hb0 hr ho hls hnx
  unfold AtTo zeroP PlM.val
  dsimp only
  go_enter Tryz.func12, Tryz.ntmps12
  go_upto_region 1 with fail
  rw [← HW0.out]
  go_wp2_with fail
  refine HF.out.mono ?_
  rintro e w1 ⟨rfl, hb1⟩
  have HB1 := Lib.hid (HB0.out.trans (hb1.mono HB0.out.size))
  have HR1 := Lib.hid (HR0.out.of_block (hb1.block _ HR0.out.lt))
  have HC1 := Lib.hid hb1
  clear hb1
  have hr0 := HR1.out.cell (i := 0) (by decide)
  have hr1 := HR1.out.cell (i := 1) (by decide)
  have hr2 := HR1.out.cell (i := 2) (by decide)
  have hr3 := HR1.out.cell (i := 3) (by decide)
  have hf0 := HR1.out.frozen 0
  have hf1 := HR1.out.frozen 1
  have hf2 := HR1.out.frozen 2
  have hf3 := HR1.out.frozen 3
  have hlt := HR1.out.lt
  go_wp2_with fail
  refine (HFI.out w1 HC1.out).mono ?_
  rintro e w2 ⟨rfl, rfl⟩
  go_wp2_with fail
  obtain ⟨W4, hW4⟩ : ∃ W, W = (((w1.setCell ⟨w.heap.size, 0, none⟩ (.int .i64 0)).setCell ⟨w.heap.size, 1, none⟩ (.int .i64 0)).setCell ⟨w.heap.size, 2, none⟩ (.int .i64 0)).setCell ⟨w.heap.size, 3, none⟩ (.int .i64 0) := ⟨_, rfl⟩
  have hB4 := below_set4 HB1.out (Nat.le_refl _) hW4
  obtain ⟨g0, g1, g2, g3⟩ := set4 HR1.out _ _ _ _ hW4
  rw [← hW4]
  refine bodyPost_ret (v := .tuple #[.agg #[.int .i64 0, .int .i64 0, .int .i64 0, .int .i64 0], .int .i64 14]) ?_ rfl ⟨rfl, hB4⟩
  clear hW4 hB4 hr0 hr1 hr2 hr3 hf0 hf1 hf2 hf3
  simp [results, Tryz.results12, go_sem, g0, g1, g2, g3]
set_option maxHeartbeats 2000000 in
set_option maxRecDepth 100000 in
theorem qat_low {w0 w : World} {qb : Nat} {mv : Option Nat} {g : Gh} {st : St} {n : Nat} {L : List (QK × LnM)} (h : QsI w0 w qb mv g st n L) (hn : n ≤ 100000) (k : QK) (a : Int) (ha : a < 0) :
    Calls Tryz.prog 12 #[.pointer (some ⟨qb, 0, none⟩), .string k.1.1, .int .i64 k.1.2, .int .i64 a] w (AtTo zeroP 2 w) := by
  obtain ⟨ls, hls⟩ : ∃ y, y = (lnD L k).least := ⟨_, rfl⟩
  obtain ⟨nx, hnx⟩ : ∃ y, y = (lnD L k).base + (lnD L k).es.length := ⟨_, rfl⟩
  obtain ⟨W0, hW0⟩ : ∃ W, W = w.alloc (.cells #[.int .i64 0, .int .i64 0, .int .i64 0, .int .i64 0] 32) := ⟨_, rfl⟩
  have hb0 : Below w.heap.size w W0 := hW0 ▸ (Below.refl _ _).alloc (Nat.le_refl _) _
  have hr : W0.rowIs w.heap.size 32 4 (fun _ => .int .i64 0) := hW0 ▸ row4 w 32
  have h0 := h.new (Chg.of_below hb0 : Chg (fun _ => False) w W0)
  have hF := qfind_any h0.q.at_ h0.map k
  rw [getK_lbs] at hF
  have HFI : Hid (∀ W, Below W0.heap.size W0 W → Calls Tryz.prog 31 #[optV ((getK L k).map (·.lb))] W fun e w' => e = .returned (.int .i64 (ls : Int)) ∧ W = w') := Lib.hid (fun W hW => by
    cases hg : getK L k with
    | none =>
      have : ls = 0 := by rw [hls]; unfold lnD; rw [hg]; rfl
      rw [this]
      exact qfirst_nil W
    | some x =>
      have : ls = x.least := by rw [hls]; unfold lnD; rw [hg]; rfl
      rw [this]
      exact qfirst_any ((h0.q.ln _ (getK_mem hg)).new (Chg.of_below hW)))
  have HNX : Hid (∀ W, Below W0.heap.size W0 W → Calls Tryz.prog 27 #[optV ((getK L k).map (·.lb))] W fun e w' => e = .returned (.int .i64 (nx : Int)) ∧ ∃ y, w' = W.drewN y) := Lib.hid (fun W hW => by
    cases hg : getK L k with
    | none =>
      have : nx = 0 := by rw [hnx]; unfold lnD; rw [hg]; rfl
      rw [this]
      exact (qnext_nil W).mono fun e w' hh => ⟨hh.1, 0, hh.2.symm⟩
    | some x =>
      have : nx = x.base + x.es.length := by rw [hnx]; unfold lnD; rw [hg]; rfl
      rw [this]
      exact qnext_any ((h0.q.ln _ (getK_mem hg)).new (Chg.of_below hW)) hn)
  obtain ⟨⟨t, q⟩, hk1, hk2⟩ := k
  obtain ⟨o, ho⟩ : ∃ o, o = optV ((getK L ⟨(t, q), hk1, hk2⟩).map (·.lb)) := ⟨_, rfl⟩
  dsimp only at hF ⊢
  rw [← ho] at hF HFI HNX 
  have HF := Lib.hid hF
  have HW0 := Lib.hid hW0
  have HB0 := Lib.hid hb0
  have HR0 := Lib.hid hr
  clear hF h h0 hW0 hb0 hr ho hls hnx
  unfold AtTo zeroP PlM.val
  dsimp only
  go_enter Tryz.func12, Tryz.ntmps12
  go_upto_region 1 with fail
  rw [← HW0.out]
  go_wp2_with fail
  refine HF.out.mono ?_
  rintro e w1 ⟨rfl, hb1⟩
  have HB1 := Lib.hid (HB0.out.trans (hb1.mono HB0.out.size))
  have HR1 := Lib.hid (HR0.out.of_block (hb1.block _ HR0.out.lt))
  have HC1 := Lib.hid hb1
  clear hb1
  have hr0 := HR1.out.cell (i := 0) (by decide)
  have hr1 := HR1.out.cell (i := 1) (by decide)
  have hr2 := HR1.out.cell (i := 2) (by decide)
  have hr3 := HR1.out.cell (i := 3) (by decide)
  have hf0 := HR1.out.frozen 0
  have hf1 := HR1.out.frozen 1
  have hf2 := HR1.out.frozen 2
  have hf3 := HR1.out.frozen 3
  have hlt := HR1.out.lt
  go_wp2_with fail
  obtain ⟨W4, hW4⟩ : ∃ W, W = (((w1.setCell ⟨w.heap.size, 0, none⟩ (.int .i64 0)).setCell ⟨w.heap.size, 1, none⟩ (.int .i64 0)).setCell ⟨w.heap.size, 2, none⟩ (.int .i64 0)).setCell ⟨w.heap.size, 3, none⟩ (.int .i64 0) := ⟨_, rfl⟩
  have hB4 := below_set4 HB1.out (Nat.le_refl _) hW4
  obtain ⟨g0, g1, g2, g3⟩ := set4 HR1.out _ _ _ _ hW4
  rw [← hW4]
  refine bodyPost_ret (v := .tuple #[.agg #[.int .i64 0, .int .i64 0, .int .i64 0, .int .i64 0], .int .i64 2]) ?_ rfl ⟨rfl, hB4⟩
  clear hW4 hB4 hr0 hr1 hr2 hr3 hf0 hf1 hf2 hf3
  simp [results, Tryz.results12, go_sem, g0, g1, g2, g3]
set_option maxHeartbeats 2000000 in
set_option maxRecDepth 100000 in
theorem qat_high {w0 w : World} {qb : Nat} {mv : Option Nat} {g : Gh} {st : St} {n : Nat} {L : List (QK × LnM)} (h : QsI w0 w qb mv g st n L) (hn : n ≤ 100000) (k : QK) (a : Int) (ha : 0 ≤ a) (hl : ((lnD L k).least : Nat) ≤ a) (hh : (((lnD L k).base + (lnD L k).es.length : Nat) : Int) ≤ a) :
    Calls Tryz.prog 12 #[.pointer (some ⟨qb, 0, none⟩), .string k.1.1, .int .i64 k.1.2, .int .i64 a] w (AtTo zeroP 2 w) := by
  obtain ⟨ls, hls⟩ : ∃ y, y = (lnD L k).least := ⟨_, rfl⟩
  obtain ⟨nx, hnx⟩ : ∃ y, y = (lnD L k).base + (lnD L k).es.length := ⟨_, rfl⟩
  rw [← hls] at hl
  rw [← hnx] at hh
  obtain ⟨W0, hW0⟩ : ∃ W, W = w.alloc (.cells #[.int .i64 0, .int .i64 0, .int .i64 0, .int .i64 0] 32) := ⟨_, rfl⟩
  have hb0 : Below w.heap.size w W0 := hW0 ▸ (Below.refl _ _).alloc (Nat.le_refl _) _
  have hr : W0.rowIs w.heap.size 32 4 (fun _ => .int .i64 0) := hW0 ▸ row4 w 32
  have h0 := h.new (Chg.of_below hb0 : Chg (fun _ => False) w W0)
  have hF := qfind_any h0.q.at_ h0.map k
  rw [getK_lbs] at hF
  have HFI : Hid (∀ W, Below W0.heap.size W0 W → Calls Tryz.prog 31 #[optV ((getK L k).map (·.lb))] W fun e w' => e = .returned (.int .i64 (ls : Int)) ∧ W = w') := Lib.hid (fun W hW => by
    cases hg : getK L k with
    | none =>
      have : ls = 0 := by rw [hls]; unfold lnD; rw [hg]; rfl
      rw [this]
      exact qfirst_nil W
    | some x =>
      have : ls = x.least := by rw [hls]; unfold lnD; rw [hg]; rfl
      rw [this]
      exact qfirst_any ((h0.q.ln _ (getK_mem hg)).new (Chg.of_below hW)))
  have HNX : Hid (∀ W, Below W0.heap.size W0 W → Calls Tryz.prog 27 #[optV ((getK L k).map (·.lb))] W fun e w' => e = .returned (.int .i64 (nx : Int)) ∧ ∃ y, w' = W.drewN y) := Lib.hid (fun W hW => by
    cases hg : getK L k with
    | none =>
      have : nx = 0 := by rw [hnx]; unfold lnD; rw [hg]; rfl
      rw [this]
      exact (qnext_nil W).mono fun e w' hh => ⟨hh.1, 0, hh.2.symm⟩
    | some x =>
      have : nx = x.base + x.es.length := by rw [hnx]; unfold lnD; rw [hg]; rfl
      rw [this]
      exact qnext_any ((h0.q.ln _ (getK_mem hg)).new (Chg.of_below hW)) hn)
  obtain ⟨⟨t, q⟩, hk1, hk2⟩ := k
  obtain ⟨o, ho⟩ : ∃ o, o = optV ((getK L ⟨(t, q), hk1, hk2⟩).map (·.lb)) := ⟨_, rfl⟩
  dsimp only at hF ⊢
  rw [← ho] at hF HFI HNX 
  have HF := Lib.hid hF
  have HW0 := Lib.hid hW0
  have HB0 := Lib.hid hb0
  have HR0 := Lib.hid hr
  clear hF h h0 hW0 hb0 hr ho hls hnx
  unfold AtTo zeroP PlM.val
  dsimp only
  go_enter Tryz.func12, Tryz.ntmps12
  go_upto_region 1 with fail
  rw [← HW0.out]
  go_wp2_with fail
  refine HF.out.mono ?_
  rintro e w1 ⟨rfl, hb1⟩
  have HB1 := Lib.hid (HB0.out.trans (hb1.mono HB0.out.size))
  have HR1 := Lib.hid (HR0.out.of_block (hb1.block _ HR0.out.lt))
  have HC1 := Lib.hid hb1
  clear hb1
  go_wp2_with fail
  refine (HFI.out w1 HC1.out).mono ?_
  rintro e w2 ⟨rfl, rfl⟩
  go_wp2_with fail
  refine (HNX.out w1 HC1.out).mono ?_
  rintro e w2 ⟨rfl, y, rfl⟩
  have HB2 := Lib.hid (below_drewN HB1.out y)
  have HR2 : Hid ((w1.drewN y).rowIs w.heap.size 32 4 (fun _ => .int .i64 0)) := Lib.hid HR1.out
  have hr0 := HR2.out.cell (i := 0) (by decide)
  have hr1 := HR2.out.cell (i := 1) (by decide)
  have hr2 := HR2.out.cell (i := 2) (by decide)
  have hr3 := HR2.out.cell (i := 3) (by decide)
  have hf0 := HR2.out.frozen 0
  have hf1 := HR2.out.frozen 1
  have hf2 := HR2.out.frozen 2
  have hf3 := HR2.out.frozen 3
  have hlt := HR2.out.lt
  go_wp2_with fail
  obtain ⟨W4, hW4⟩ : ∃ W, W = ((((w1.drewN y).setCell ⟨w.heap.size, 0, none⟩ (.int .i64 0)).setCell ⟨w.heap.size, 1, none⟩ (.int .i64 0)).setCell ⟨w.heap.size, 2, none⟩ (.int .i64 0)).setCell ⟨w.heap.size, 3, none⟩ (.int .i64 0) := ⟨_, rfl⟩
  have hB4 := below_set4 HB2.out (Nat.le_refl _) hW4
  obtain ⟨g0, g1, g2, g3⟩ := set4 HR2.out _ _ _ _ hW4
  rw [← hW4]
  refine bodyPost_ret (v := .tuple #[.agg #[.int .i64 0, .int .i64 0, .int .i64 0, .int .i64 0], .int .i64 2]) ?_ rfl ⟨rfl, hB4⟩
  clear hW4 hB4 hr0 hr1 hr2 hr3 hf0 hf1 hf2 hf3
  simp [results, Tryz.results12, go_sem, g0, g1, g2, g3]
set_option maxHeartbeats 2000000 in
set_option maxRecDepth 100000 in
theorem qat_ok {w0 w : World} {qb : Nat} {mv : Option Nat} {g : Gh} {st : St} {n : Nat} {L : List (QK × LnM)} (h : QsI w0 w qb mv g st n L) (hn : n ≤ 100000) (k : QK) (a : Nat) (i : Nat) (p : PlM) (hai : a = (lnD L k).base + i) (hp : (lnD L k).es[i]? = some p) (hl : (lnD L k).least ≤ a) :
    Calls Tryz.prog 12 #[.pointer (some ⟨qb, 0, none⟩), .string k.1.1, .int .i64 k.1.2, .int .i64 a] w (AtTo p 0 w) := by
  obtain ⟨ls, hls⟩ : ∃ y, y = (lnD L k).least := ⟨_, rfl⟩
  obtain ⟨nx, hnx⟩ : ∃ y, y = (lnD L k).base + (lnD L k).es.length := ⟨_, rfl⟩
  have hlt0 := (List.getElem?_eq_some_iff.1 hp).1
  have hanx : a < nx := by omega
  rw [← hls] at hl
  obtain ⟨W0, hW0⟩ : ∃ W, W = w.alloc (.cells #[.int .i64 0, .int .i64 0, .int .i64 0, .int .i64 0] 32) := ⟨_, rfl⟩
  have hb0 : Below w.heap.size w W0 := hW0 ▸ (Below.refl _ _).alloc (Nat.le_refl _) _
  have hr : W0.rowIs w.heap.size 32 4 (fun _ => .int .i64 0) := hW0 ▸ row4 w 32
  have h0 := h.new (Chg.of_below hb0 : Chg (fun _ => False) w W0)
  have hF := qfind_any h0.q.at_ h0.map k
  rw [getK_lbs] at hF
  have HFI : Hid (∀ W, Below W0.heap.size W0 W → Calls Tryz.prog 31 #[optV ((getK L k).map (·.lb))] W fun e w' => e = .returned (.int .i64 (ls : Int)) ∧ W = w') := Lib.hid (fun W hW => by
    cases hg : getK L k with
    | none =>
      have : ls = 0 := by rw [hls]; unfold lnD; rw [hg]; rfl
      rw [this]
      exact qfirst_nil W
    | some x =>
      have : ls = x.least := by rw [hls]; unfold lnD; rw [hg]; rfl
      rw [this]
      exact qfirst_any ((h0.q.ln _ (getK_mem hg)).new (Chg.of_below hW)))
  have HNX : Hid (∀ W, Below W0.heap.size W0 W → Calls Tryz.prog 27 #[optV ((getK L k).map (·.lb))] W fun e w' => e = .returned (.int .i64 (nx : Int)) ∧ ∃ y, w' = W.drewN y) := Lib.hid (fun W hW => by
    cases hg : getK L k with
    | none =>
      have : nx = 0 := by rw [hnx]; unfold lnD; rw [hg]; rfl
      rw [this]
      exact (qnext_nil W).mono fun e w' hh => ⟨hh.1, 0, hh.2.symm⟩
    | some x =>
      have : nx = x.base + x.es.length := by rw [hnx]; unfold lnD; rw [hg]; rfl
      rw [this]
      exact qnext_any ((h0.q.ln _ (getK_mem hg)).new (Chg.of_below hW)) hn)
  have HE : Hid (∀ W, Below W0.heap.size W0 W → Calls Tryz.prog 32 #[optV ((getK L k).map (·.lb)), .int .i64 (a : Int)] W fun e w' => e = .returned (.tuple #[p.val, .int .i64 0]) ∧ Below W.heap.size W w') := Lib.hid (fun W hW => by
    cases hg : getK L k with
    | none =>
      have : (lnD L k).es = [] := by unfold lnD; rw [hg]; rfl
      rw [this] at hp
      cases hp
    | some x =>
      have hx : lnD L k = x := by unfold lnD; rw [hg]; rfl
      rw [hx] at hp hai hls
      rw [hai]
      have := h.lo _ (getK_mem hg)
      exact qentry_any h.q.calm ((h0.q.ln _ (getK_mem hg)).new (Chg.of_below hW)) hn ⟨hp, by have h1 : x.lo ≤ x.least := this; show x.lo ≤ x.base + i; omega⟩)
  obtain ⟨pa, pb, pc, pd⟩ := p
  unfold PlM.val at HE
  dsimp only at HE
  clear hp hlt0 hai
  obtain ⟨⟨t, q⟩, hk1, hk2⟩ := k
  obtain ⟨o, ho⟩ : ∃ o, o = optV ((getK L ⟨(t, q), hk1, hk2⟩).map (·.lb)) := ⟨_, rfl⟩
  dsimp only at hF ⊢
  rw [← ho] at hF HFI HNX HE
  have HF := Lib.hid hF
  have HW0 := Lib.hid hW0
  have HB0 := Lib.hid hb0
  have HR0 := Lib.hid hr
  clear hF h h0 hW0 hb0 hr ho hls hnx
  unfold AtTo PlM.val
  dsimp only
  go_enter Tryz.func12, Tryz.ntmps12
  go_upto_region 1 with fail
  rw [← HW0.out]
  go_wp2_with fail
  refine HF.out.mono ?_
  rintro e w1 ⟨rfl, hb1⟩
  have HB1 := Lib.hid (HB0.out.trans (hb1.mono HB0.out.size))
  have HR1 := Lib.hid (HR0.out.of_block (hb1.block _ HR0.out.lt))
  have HC1 := Lib.hid hb1
  clear hb1
  go_wp2_with fail
  refine (HFI.out w1 HC1.out).mono ?_
  rintro e w2 ⟨rfl, rfl⟩
  go_wp2_with fail
  refine (HNX.out w1 HC1.out).mono ?_
  rintro e w2 ⟨rfl, y, rfl⟩
  have HB2 := Lib.hid (below_drewN HB1.out y)
  have HR2 : Hid ((w1.drewN y).rowIs w.heap.size 32 4 (fun _ => .int .i64 0)) := Lib.hid HR1.out
  have HC2 : Hid (Below W0.heap.size W0 (w1.drewN y)) := Lib.hid (below_drewN HC1.out y)
  go_wp2_with fail
  refine (HE.out _ HC2.out).mono ?_
  rintro e w3 ⟨rfl, hb3⟩
  have HB3 := Lib.hid (HB2.out.trans (hb3.mono HB2.out.size))
  have HR3 := Lib.hid (HR2.out.of_block (hb3.block _ HR2.out.lt))
  clear hb3
  have hr0 := HR3.out.cell (i := 0) (by decide)
  have hr1 := HR3.out.cell (i := 1) (by decide)
  have hr2 := HR3.out.cell (i := 2) (by decide)
  have hr3 := HR3.out.cell (i := 3) (by decide)
  have hf0 := HR3.out.frozen 0
  have hf1 := HR3.out.frozen 1
  have hf2 := HR3.out.frozen 2
  have hf3 := HR3.out.frozen 3
  have hlt := HR3.out.lt
  go_wp2_with fail
  obtain ⟨W4, hW4⟩ : ∃ W, W = (((w3.setCell ⟨w.heap.size, 0, none⟩ (.int .i64 pa)).setCell ⟨w.heap.size, 1, none⟩ (.int .i64 pb)).setCell ⟨w.heap.size, 2, none⟩ (.int .i64 pc)).setCell ⟨w.heap.size, 3, none⟩ (.int .i64 pd) := ⟨_, rfl⟩
  have hB4 := below_set4 HB3.out (Nat.le_refl _) hW4
  obtain ⟨g0, g1, g2, g3⟩ := set4 HR3.out _ _ _ _ hW4
  rw [← hW4]
  refine bodyPost_ret (v := .tuple #[.agg #[.int .i64 pa, .int .i64 pb, .int .i64 pc, .int .i64 pd], .int .i64 0]) ?_ rfl ⟨rfl, hB4⟩
  clear hW4 hB4 hr0 hr1 hr2 hr3 hf0 hf1 hf2 hf3
  simp [results, Tryz.results12, go_sem, g0, g1, g2, g3]
end Go.Proofs.YtmhojpipmllphaaGreatDoor

namespace Go.Proofs.YtmhojpipmllphaaGreatDoor
open Go.RowKit Go.Deep
set_option linter.unusedVariables false
set_option linter.unusedSimpArgs false

def qH : ByteArray := ⟨#[113, 45]⟩
theorem namesS_of {head : ByteArray} {st : St} {p : ByteArray × FileM} (hp : p ∈ st.fs) (hh : Lib.hasPrefix p.1.data.toList head.data.toList = true) : p.1 ∈ namesS head st := by
  unfold namesS
  refine List.mem_map.2 ⟨p.1.data.toList, ?_, by rw [Array.toArray_toList]⟩
  rw [List.mem_mergeSort]
  exact List.mem_map.2 ⟨p, List.mem_filter.2 ⟨hp, hh⟩, rfl⟩
theorem deleteAll_gone : ∀ (ts : List ByteArray) (st : St) (p : ByteArray × FileM), p ∈ (deleteAll st ts).fs → p.1 ∉ ts
  | [], _, _, _ => fun hx => by cases hx
  | t :: ts, st, p, hp => fun hx => by
    have hp : p ∈ (deleteAll (removeS st t) ts).fs := hp
    rcases List.mem_cons.1 hx with h | h
    · have h1 : p ∈ (removeS st t).fs := deleteAll_sub ts _ p hp
      have h2 : p ∈ dropF st.fs t := h1
      have := (List.mem_filter.1 h2).2
      simp at this
      exact this h
    · exact deleteAll_gone ts _ p hp h
def qNewS (st : St) : St := deleteAll st (namesS qH st)
def QNewTo (w0 w : World) (g : Gh) (st : St) (n : Nat) (e : Ending) (w' : World) : Prop :=
  ∃ qb g', e = .returned (.tuple #[.pointer (some ⟨qb, 0, none⟩), .int .i64 0]) ∧ w.heap.size ≤ qb ∧ QsI w0 w' qb none g' (qNewS st) n [] ∧ Gh.To w g g' w'
theorem qs_empty {w0 w3 : World} {qb : Nat} {g3 : Gh} {st3 : St} {n : Nat} (hs : w0.heap.size ≤ qb) (hlt : qb < w3.heap.size) (hd : DiskG w0 w3 g3.d g3 st3) (ht : Tab10 w0) (hk : Calm n st3) (hnm : ∀ p ∈ st3.fs, p.1.size ≤ 1048576) (hq : w3.heap[qb]? = some (.cells #[.pointer (some ⟨g3.d, 0, none⟩), .map none] 57 (0, 0))) (hout : qb ∉ g3.fp)
    (hno : ∀ f ∈ st3.fs, Lib.hasPrefix f.1.data.toList qHead = false) : QsI w0 w3 qb none g3 st3 n [] := by
  have hm : ∀ q, q ∈ qfoot qb none [] → q = qb := fun q hq => by simpa [qfoot] using hq
  refine ⟨⟨hd, ht, hk, hnm, hq, List.nodup_nil, (fun p hp => by cases hp), by simp [qfoot], fun q hq => ?_, fun q hq => ?_, fun q hq => ?_, fun f hf hx => ?_⟩, rfl, (fun p hp => by cases hp)⟩
  · rw [hm q hq]; exact hs
  · rw [hm q hq]; exact hlt
  · rw [hm q hq]; exact hout
  · rw [hno f hf] at hx; cases hx
set_option maxHeartbeats 2000000 in
set_option maxRecDepth 100000 in
theorem qnew_any {w0 w : World} {d : Nat} {g : Gh} {st : St} {n : Nat} (hd : DiskG w0 w d g st) (ht : Tab10 w0) (hk : Calm n st) (hn : n ≤ 1000) (hnm : ∀ p ∈ st.fs, p.1.size ≤ 1048576) :
    Calls Tryz.prog 5 #[.pointer (some ⟨d, 0, none⟩)] w (QNewTo w0 w g st n) := by
  obtain ⟨W1, hW1⟩ : ∃ W, W = w.alloc (.cells #[.pointer (some ⟨d, 0, none⟩), .map none] 57) := ⟨_, rfl⟩
  have hc1 : Chg (fun _ => False) w W1 := hW1 ▸ Chg.alloc _ (Chg.refl _ _) _
  have hq1 : W1.heap[w.heap.size]? = some (.cells #[.pointer (some ⟨d, 0, none⟩), .map none] 57 (0, 0)) := by rw [hW1]; exact heap_alloc_new w _
  have hd1 := hd.new hc1
  have hout : w.heap.size ∉ g.fp := fun hx => (by have := hd.disk.lt _ hx; omega)
  have hfound : ∀ t ∈ namesS qH st, (st.find t).isSome = true := fun t ht => find_some_mem (namesS_mem ht)
  have hlen : (namesS qH st).length ≤ 1048576 := by have := namesS_length qH st; have := hk.good.len; omega
  have hL := list_strs g st qH W1 hd1.disk (by have := hk.good.len; omega)
  have hDL : ∀ W v, DiskAt W g st → Strs W W1.heap.size v (namesS qH st) → Calls Tryz.prog 20 #[.pointer (some ⟨g.d, 0, none⟩), v] W (OpTo g 0 (qNewS st) W) := fun W v hdW hsv => by
    have := delete_any g st v _ W hdW (strs_up hsv (Nat.zero_le _)) (fun q o len cap hv h0 hx => by
      obtain ⟨a, c, e, h⟩ := hsv
      rw [e] at hv
      cases hv
      rcases h with h | ⟨q', o', hq, hb, _⟩
      · rw [h] at h0; exact absurd h0 (by simp)
      · cases hq
        have h1 := hd.disk.lt _ hx
        have h2 := hc1.size
        omega) (fun t ht => by
      obtain ⟨p, hp, rfl⟩ := namesS_mem ht
      have := hnm p hp
      unfold maxLen
      omega) (by omega) hk.good.fuse hk.good.sizeOk (by have := hk.good.size; have := hk.good.cap; omega)
    rwa [hk.deleteE hfound, hk.deleteS hfound] at this
  have hsz1 : w.heap.size < W1.heap.size := by rw [hW1, World.size_alloc]; omega
  have hfin : ∀ w3 g3, DiskAt w3 g3 (qNewS st) → Gh.To W1 g g3 w3 → QsI w0 w3 w.heap.size none g3 (qNewS st) n [] ∧ Gh.To w g g3 w3 := fun w3 g3 h3 hto => by
    refine ⟨qs_empty hd.chg.size (Nat.lt_of_lt_of_le hsz1 hto.chg.size) ⟨h3, rfl, hd1.chg.trans hto.chg (fun q hq hx => by have := hd.low q hx; omega), fun q hq => ?_⟩ ht (hk.delete _) (fun p hp => hnm p (deleteAll_sub _ _ p hp)) ?_ (fun hx => ?_) (fun f hf => ?_), (Gh.To.new g hc1).trans hto⟩
    · rcases hto.fp q hq with a | a
      · exact hd.low q a
      · have := hd1.chg.size; omega
    · rw [hto.d, hd.d]
      exact hto.chg.heap hq1 hout
    · rcases hto.fp _ hx with a | a
      · exact hout a
      · omega
    · cases hc : Lib.hasPrefix f.1.data.toList qHead with
      | false => rfl
      | true => exact absurd (namesS_of (deleteAll_sub _ _ f hf) hc) (deleteAll_gone _ _ f hf)
  have hnil : namesS qH st = [] → qNewS st = st := fun h => by unfold qNewS; rw [h]; rfl
  obtain ⟨q0, q1, qz⟩ := qs_cell hq1
  obtain ⟨rs, hrs⟩ : ∃ rs, rs = namesS qH st := ⟨_, rfl⟩
  rw [← hrs] at hL hDL hlen hnil
  obtain ⟨n', hn'⟩ : ∃ n', n' = rs.length := ⟨_, rfl⟩
  have hgd := hd.d
  rw [hgd] at hL hDL
  have HN := Lib.hid hn'
  rw [← hn'] at hlen
  have HD1 := Lib.hid hd1
  have HL := Lib.hid hL
  have HDL := Lib.hid hDL
  have HFIN := Lib.hid hfin
  have HNIL := Lib.hid hnil
  have HW1 := Lib.hid hW1
  clear hL hDL hfin hnil hn' hrs hd1 hd hq1 hc1 hW1 hk hnm ht hfound hout qz hgd hn
  go_enter Tryz.func5, Tryz.ntmps5
  go_upto_region 4 with fail
  rw [← HW1.out]
  go_wp2_with fail
  refine HL.out.mono ?_
  rintro e w2 ⟨v, rfl, hs2, hb2⟩
  obtain ⟨ra, rc, hrv⟩ := hs2.form
  rw [← HN.out] at hrv
  subst hrv
  have q0 := keep4 hb2 q0
  have HS2 := Lib.hid hs2
  have HB2 := Lib.hid hb2
  clear hs2 hb2 q1
  by_cases hr0 : n' = 0
  · subst hr0
    go_wp2_with fail
    go_ret2
    have e := HNIL.out (List.length_eq_zero_iff.1 HN.out.symm)
    obtain ⟨r1, r2⟩ := HFIN.out w2 g (by rw [e]; exact (HD1.out.new (Chg.of_below HB2.out)).disk) (Gh.To.new g (Chg.of_below HB2.out))
    exact ⟨_, g, rfl, Nat.le_refl _, r1, r2⟩
  · have hpos : 0 < n' := by omega
    go_wp2_with fail
    refine (HDL.out w2 _ (HD1.out.new (Chg.of_below HB2.out)).disk HS2.out).mono ?_
    rintro e w3 ⟨rfl, g3, hd3, ht3⟩
    have hR := HFIN.out w3 g3 hd3 ((Gh.To.new g (Chg.of_below HB2.out)).trans ht3)
    have HR := Lib.hid hR
    clear hd3 ht3 hR
    go_wp2_with fail
    go_ret2
    exact ⟨_, g3, rfl, Nat.le_refl _, HR.out.1, HR.out.2⟩
end Go.Proofs.YtmhojpipmllphaaGreatDoor

namespace Go.Proofs.YtmhojpipmllphaaGreatDoor
open Go.RowKit Go.Deep
open Classical
set_option linter.unusedVariables false
set_option linter.unusedSimpArgs false

theorem qnamesS_perm (head : ByteArray) (st : St) : (namesS head st).Perm ((st.fs.map (·.1)).filter fun nm => Lib.hasPrefix nm.data.toList head.data.toList) := by
  have h1 : (st.fs.filter fun p => Lib.hasPrefix p.1.data.toList head.data.toList).map (fun p => p.1.data.toList) = ((st.fs.map (·.1)).filter fun nm => Lib.hasPrefix nm.data.toList head.data.toList).map fun nm => nm.data.toList := by
    rw [List.filter_map, List.map_map]
    rfl
  unfold namesS
  rw [h1]
  refine ((List.mergeSort_perm _ _).map _).trans ?_
  rw [List.map_map]
  have : ((fun l : List UInt8 => (⟨l.toArray⟩ : ByteArray)) ∘ fun nm : ByteArray => nm.data.toList) = id := by funext nm; simp
  rw [this, List.map_id]
theorem qplS_len {z j : Nat} (hz : 0 < z) : ∀ (k i : Nat), i + k = j → (plS (z * j) z (z * i)).length = k
  | 0, i, h => by
    have : i = j := by omega
    rw [this, plS_done _ _ _ (by omega)]
    rfl
  | k + 1, i, h => by
    have hlt : z * i < z * j := Nat.mul_lt_mul_of_pos_left (by omega) hz
    rw [plS_step _ _ _ hz hlt, List.length_cons, ← Nat.mul_succ, qplS_len hz k (i + 1) (by omega)]
theorem row_count {n : Nat} {m : RowM} {st : St} {z i0 j : Nat} {all : List UInt8} (h : RowC n m st z i0 j all) : (namesS m.head st).length = j - i0 := by
  have hz : 0 < z := by have := h.row.z1; omega
  have hroom := h.row.room
  have hij := h.row.ij
  have hn2 : ((plS (z * j) z (z * i0)).map (nameB m.head)).Nodup := by
    have hr := plS_rise (x := z * j) hz (z * j - z * i0) (z * i0) (Nat.le_refl _)
    have hm := plS_mem (x := z * j) hz (z * j - z * i0) (z * i0) (Nat.le_refl _)
    unfold List.Nodup
    rw [List.pairwise_map]
    refine List.Pairwise.imp_of_mem ?_ hr
    intro a b ha hb hlt hx
    have h1 := hm a ha
    have h2 := hm b hb
    have := nameB_inj m.head (by omega) (by omega) hx
    omega
  have hp : (namesS m.head st).Perm ((plS (z * j) z (z * i0)).map (nameB m.head)) := by
    refine (qnamesS_perm m.head st).trans ?_
    rw [List.perm_ext_iff_of_nodup (List.filter_sublist.nodup h.row.calm.good.names) hn2]
    intro nm
    rw [List.mem_filter, h.row.own nm, List.mem_map]
    constructor
    · rintro ⟨p, hp, rfl⟩; exact ⟨p, hp, rfl⟩
    · rintro ⟨p, hp, rfl⟩; exact ⟨p, hp, rfl⟩
  rw [hp.length_eq, List.length_map, qplS_len hz (j - i0) i0 (by omega)]
/-- A queue's files: ten entries in each, but for those that were dropped. -/
def Cnt (st : St) (k : QK) (x : LnM) (nl : Nat) : Prop := x.row.isSome = true → x.es ≠ [] → (namesS (hdQ k) st).length = (x.es.length + 9) / 10 - min ((nl - x.base) / 10) ((x.es.length + 9) / 10 - 1)
theorem Tight.cnt {w0 w : World} {g : Gh} {st : St} {n : Nat} {k : QK} {x : LnM} {nl : Nat} (h : Tight w0 w g st n k (dropTo x nl) nl) (hl : LnOk w0 w g st n k (dropTo x nl)) : Cnt st k x nl := by
  intro hs hne
  obtain ⟨r, hr⟩ := Option.isSome_iff_exists.1 hs
  obtain ⟨m, i0, j, hw, ht⟩ := h r hr
  obtain ⟨he1, he2⟩ := hl.end_ hw
  have e1 := hw.rc.row.e1
  have e2 := hw.rc.row.e2
  have hti := hw.rc.tight
  have hno := hw.rc.row.none
  have hij := hw.rc.row.ij
  have hc := row_count hw.rc
  rw [he1] at e1 e2 hti
  rw [hw.hd] at hc
  have hlo : x.base + 10 * i0 ≤ nl := hw.lo
  have hlt : nl ≤ x.base + x.es.length := hl.lo
  have hlen : 0 < x.es.length := List.length_pos_iff.2 hne
  have ht : nl - x.base < 10 * (i0 + 1) ∨ x.es.length ≤ 10 * (i0 + 1) := ht
  have e1 : 20 * x.es.length ≤ 200 * j := e1
  have e2 : 200 * j ≤ 20 * x.es.length + 200 := e2
  have hti : i0 + 1 < j → 200 * (j - 1) < 20 * x.es.length := hti
  rw [hc]
  by_cases hx : i0 + 1 < j
  · have := hti hx
    omega
  · by_cases hy : i0 = j
    · have := hno hy
      omega
    · omega

/-- Where a trim leaves a line's least position. -/
def tTo (z : Int) (x : LnM) : Nat := x.base + seekI x.es (funTrim z) (x.least - x.base)
theorem tTo_ge (z : Int) {x : LnM} (h : x.base ≤ x.least) : x.least ≤ tTo z x := by
  unfold tTo seekI
  omega
theorem tTo_le (z : Int) {x : LnM} (h : x.base ≤ x.least) (h2 : x.least ≤ x.base + x.es.length) : tTo z x ≤ x.base + x.es.length := by
  unfold tTo seekI
  have h1 : ((x.es.drop (x.least - x.base)).takeWhile fun p => !funTrim z p).length ≤ (x.es.drop (x.least - x.base)).length := (List.takeWhile_sublist _).length_le
  rw [List.length_drop] at h1
  omega
def dT (z : Int) (x : LnM) : LnM := dropTo x (tTo z x)
def fT (z : Int) (x : LnM) : LnM := { x with least := tTo z x, lo := tTo z x }
/-- Some lines turned. -/
noncomputable def mixL (done : List QK) (f f' : LnM → LnM) (L : List (QK × LnM)) : List (QK × LnM) := L.map fun p => (p.1, if p.1 ∈ done then f' p.2 else f p.2)
theorem mixL_nil (f f' : LnM → LnM) (L : List (QK × LnM)) : mixL [] f f' L = L.map fun p => (p.1, f p.2) := by
  unfold mixL
  refine List.map_congr_left fun p _ => ?_
  rw [if_neg (by simp)]
theorem mixL_all {done : List QK} {f f' : LnM → LnM} {L : List (QK × LnM)} (h : ∀ p ∈ L, p.1 ∈ done) : mixL done f f' L = L.map fun p => (p.1, f' p.2) := by
  unfold mixL
  refine List.map_congr_left fun p hp => ?_
  rw [if_pos (h p hp)]
theorem mixL_focus {done : List QK} {f f' : LnM → LnM} {L : List (QK × LnM)} {k : QK} {x : LnM} (hn : (L.map (·.1)).Nodup) (hk : getK L k = some x) (hd : k ∉ done) :
    (mixL done f f' L).Perm (mixL done f f' (dropK L k) ++ [(k, f x)]) ∧ (mixL (done ++ [k]) f f' L).Perm (mixL done f f' (dropK L k) ++ [(k, f' x)]) := by
  have hp := focus_perm hn hk
  constructor
  · have := hp.map (fun p : QK × LnM => (p.1, if p.1 ∈ done then f' p.2 else f p.2))
    rw [List.map_append] at this
    have e : [(k, x)].map (fun p : QK × LnM => (p.1, if p.1 ∈ done then f' p.2 else f p.2)) = [(k, f x)] := by simp [hd]
    rw [e] at this
    exact this
  · have := hp.map (fun p : QK × LnM => (p.1, if p.1 ∈ done ++ [k] then f' p.2 else f p.2))
    rw [List.map_append] at this
    have e : [(k, x)].map (fun p : QK × LnM => (p.1, if p.1 ∈ done ++ [k] then f' p.2 else f p.2)) = [(k, f' x)] := by simp
    rw [e] at this
    have e2 : (dropK L k).map (fun p : QK × LnM => (p.1, if p.1 ∈ done ++ [k] then f' p.2 else f p.2)) = mixL done f f' (dropK L k) := by
      unfold mixL
      refine List.map_congr_left fun p hp => ?_
      have := dropK_ne p hp
      simp [this]
    rw [e2] at this
    exact this
theorem Others.toQ {k : QK} {st st' : St} (h : Others (hdQ k) st st') : Others qH st st' := fun nm hn => h nm (by
  cases hx : Lib.hasPrefix nm.data.toList (hdQ k).data.toList with
  | false => rfl
  | true =>
    have h1 : Lib.hasPrefix nm.data.toList qH.data.toList = true := hd_pre k hx
    rw [hn] at h1
    cases h1)
/-- A trim under way. -/
structure TrI (w0 w wr : World) (qb : Nat) (mv : Option Nat) (g : Gh) (st : St) (n : Nat) (L ML : List (QK × LnM)) (g1 : Gh) (st1 : St) : Prop where
  q : QsL w0 wr qb mv g1 st1 n ML
  to_ : QTo w (qAll qb mv L g) wr (qAll qb mv ML g1)
  map : MapIs wr mv (lbs L)
  oth : Others qH st st1
  cap : st1.cap = st.cap
  size : st1.size ≤ st.size
  d : g1.d = g.d
theorem TrI.new {w0 w wr w' : World} {qb : Nat} {mv : Option Nat} {g : Gh} {st : St} {n : Nat} {L ML : List (QK × LnM)} {g1 : Gh} {st1 : St} (h : TrI w0 w wr qb mv g st n L ML g1 st1) (hc : Chg (fun _ => False) wr w') : TrI w0 w w' qb mv g st n L ML g1 st1 :=
  { h with q := h.q.new hc, to_ := h.to_.trans (QTo.of_new hc), map := h.map.new hc }
theorem QTo.perm {w w' : World} {qb : Nat} {mv : Option Nat} {L1 L1' L2 L2' : List (QK × LnM)} {g g' : Gh} (h : QTo w (qAll qb mv L1 g) w' (qAll qb mv L2 g')) (h1 : L1.Perm L1') (h2 : L2.Perm L2') : QTo w (qAll qb mv L1' g) w' (qAll qb mv L2' g') :=
  h.wide (fun q hq => (qAll_perm h1 q).1 hq) (fun q hq => .inl ((qAll_perm h2 q).2 hq))
theorem tri_drop {w0 w wr : World} {qb : Nat} {mv : Option Nat} {g : Gh} {st : St} {n : Nat} {L : List (QK × LnM)} {g1 : Gh} {st1 : St} {z : Int} {done : List QK} (h : TrI w0 w wr qb mv g st n L (mixL done id (dT z) L) g1 st1) (hn : n ≤ 100000) (hkeys : (L.map (·.1)).Nodup) {k : QK} {x : LnM} (hk : getK L k = some x) (hd : k ∉ done) (hlo : x.lo ≤ x.least) :
    Calls Tryz.prog 37 #[.pointer (some ⟨x.lb, 0, none⟩), .int .i64 (tTo z x : Int)] wr fun e w' => e = .returned (.int .i64 0) ∧ ∃ g2 st2, TrI w0 w w' qb mv g st n L (mixL (done ++ [k]) id (dT z) L) g2 st2 ∧ Cnt st2 k x (tTo z x) ∧ Chg (qAll qb mv (mixL done id (dT z) L) g1) wr w' := by
  obtain ⟨p1, p2⟩ := mixL_focus (f := id) (f' := dT z) hkeys hk hd
  have hq := h.q.perm p1
  have hl : LnOk w0 wr g1 st1 n k x := hq.ln _ (List.mem_append_right _ (List.mem_singleton.2 rfl))
  have ht1 := tTo_ge z hl.le
  have ht2 := tTo_le z hl.le hl.lt
  refine (qdrop_any hq hn (tTo z x) (show x.lo ≤ _ by omega) ht2).mono ?_
  rintro e w' ⟨rfl, g2, st2, hdi, ht⟩
  have hl2 : LnOk w0 w' g2 st2 n k (dropTo x (tTo z x)) := hdi.q.ln _ (List.mem_append_right _ (List.mem_singleton.2 rfl))
  exact ⟨rfl, g2, st2, ⟨hdi.q.perm p2.symm, h.to_.trans (hdi.to_.perm p1.symm p2.symm), hdi.map _ h.map, h.oth.trans hdi.oth.toQ, hdi.cap.trans h.cap, Nat.le_trans hdi.size h.size, hdi.d.trans h.d⟩, ht.cnt hl2, (hdi.to_.perm p1.symm p2.symm).chg⟩
theorem tri_least {w0 w wr : World} {qb : Nat} {mv : Option Nat} {g : Gh} {st : St} {n : Nat} {L : List (QK × LnM)} {g1 : Gh} {st1 : St} {z : Int} {done : List QK} (h : TrI w0 w wr qb mv g st n L (mixL done (dT z) (fT z) L) g1 st1) (hkeys : (L.map (·.1)).Nodup) {k : QK} {x : LnM} (hk : getK L k = some x) (hd : k ∉ done) (hle : x.base ≤ x.least) (hlt : x.least ≤ x.base + x.es.length) :
    TrI w0 w (wr.setCell ⟨x.lb, 2, none⟩ (.int .i64 (tTo z x : Int))) qb mv g st n L (mixL (done ++ [k]) (dT z) (fT z) L) g1 st1 := by
  obtain ⟨p1, p2⟩ := mixL_focus (f := dT z) (f' := fT z) hkeys hk hd
  have hq := h.q.perm p1
  have hxm : (k, dT z x) ∈ mixL done (dT z) (fT z) (dropK L k) ++ [(k, dT z x)] := List.mem_append_right _ (List.mem_singleton.2 rfl)
  have hl : LnOk w0 wr g1 st1 n k (dT z x) := hq.ln _ hxm
  have ht1 := tTo_ge z hle
  have ht2 := tTo_le z hle hlt
  have hlbm : x.lb ∈ qfoot qb mv (mixL done (dT z) (fT z) (dropK L k) ++ [(k, dT z x)]) := mem_qfoot_lb hxm
  have hset : Chg (fun q => q = x.lb) wr (wr.setCell ⟨x.lb, 2, none⟩ (.int .i64 (tTo z x : Int))) := Chg.setCell (S := fun q => q = x.lb) (p := ⟨x.lb, 2, none⟩) (Chg.refl _ _) (fun _ => rfl) _
  have hgf : ∀ q ∈ g1.fp, ¬ q = x.lb := fun q hq2 hx => hq.out _ hlbm (hx ▸ hq2)
  have hw : Chg (fun _ => False) w0 (wr.setCell ⟨x.lb, 2, none⟩ (.int .i64 (tTo z x : Int))) := hq.disk.chg.trans hset (fun q hq2 hs => by have := hq.low _ hlbm; subst hs; omega)
  have hcells : (dT z x).cells.setIfInBounds 2 (.int .i64 (tTo z x : Int)) = (fT z x).cells := rfl
  have hnd := hq.apart
  rw [(qfoot_app qb mv _ k _).nodup_iff, List.nodup_append] at hnd
  have hln : LnOk w0 (wr.setCell ⟨x.lb, 2, none⟩ (.int .i64 (tTo z x : Int))) g1 st1 n k (fT z x) :=
    ⟨line_set hl.at_ hcells rfl, (by show x.base ≤ tTo z x; omega), ht2, ht2, (by show x.base ≤ tTo z x; omega), hl.top, hl.qn, hl.bb, hl.el, hl.fit, hl.none, fun r hr => by
      obtain ⟨m, i0, j, h2⟩ := hl.row r hr
      have hne : ¬ r = x.lb := by
        have h3 := hnd.1
        unfold LnM.foot at h3
        rw [show (dT z x).row = some r from hr] at h3
        intro hx
        have h4 : (dT z x).lb = x.lb := rfl
        rw [h4, hx] at h3
        simp at h3
      exact ⟨m, i0, j, ⟨⟨h2.rg.disk.chg hset hgf, h2.rg.row.chg hset hne, h2.rg.out, hw, h2.rg.low, h2.rg.lowb, h2.rg.tab0⟩, h2.rc, h2.hd, h2.lo⟩⟩⟩
  obtain ⟨r1, r2, r3⟩ := hq.set 2 (.int .i64 (tTo z x : Int)) (x' := fT z x) hcells rfl hln (fun hx => hx) (fun r hr => .inl hr) (fun r hr => hr)
  have hqt : QTo wr (qAll qb mv (mixL done (dT z) (fT z) (dropK L k) ++ [(k, dT z x)]) g1) (wr.setCell ⟨x.lb, 2, none⟩ (.int .i64 (tTo z x : Int))) (qAll qb mv (mixL done (dT z) (fT z) (dropK L k) ++ [(k, fT z x)]) g1) := by
    refine ⟨r2.wide (fun q _ hx => (Or.inl (hx ▸ hlbm) : qAll qb mv _ g1 q)), fun q hx => .inl ?_⟩
    rcases hx with a | a
    · rcases r3 q a with c | c
      · exact .inl c
      · exact .inl (mem_qfoot_row hxm c)
    · exact .inr a
  refine ⟨r1.perm p2.symm, h.to_.trans (hqt.perm p1.symm p2.symm), h.map.keep (fun mb hmb => ?_), h.oth, h.cap, h.size, h.d⟩
  subst hmb
  obtain ⟨h1, _⟩ := qs_apart hq
  exact hset.block _ h.map.lt (fun hx => (h1 mb rfl).2 _ hxm (hx ▸ List.mem_cons_self ..))
end Go.Proofs.YtmhojpipmllphaaGreatDoor

namespace Go.Proofs.YtmhojpipmllphaaGreatDoor
open Go.RowKit Go.Deep
set_option linter.unusedVariables false
set_option linter.unusedSimpArgs false

def someL (L : List (QK × Nat)) : List (QK × Option Nat) := L.map fun p => (p.1, some p.2)
theorem someL_keys (L : List (QK × Nat)) : (someL L).map (·.1) = L.map (·.1) := by
  unfold someL
  rw [List.map_map]
  rfl
/-- A range over the lines, under way. -/
def RangeQ (w : World) (mv : Option Nat) (r : Nat) (M vis rem : List (QK × Option Nat)) (cnt : Nat) : Prop := match mv with
  | none => rem = [] ∧ vis = [] ∧ M = [] ∧ ∀ ty, (Instr.next (.pointer (some ⟨r, 0, none⟩)) false ty).run Tryz.prog w = .ok (.tuple #[.bool false]) w
  | some mb => RangeK qK lnEl w mb r M vis rem cnt
theorem RangeQ.kept {w w' : World} {mb r : Nat} {M vis rem : List (QK × Option Nat)} {cnt : Nat} (h : RangeQ w (some mb) r M vis rem cnt) {S : Nat → Prop} (hc : Chg S w w') (h1 : ¬ S mb) (h2 : ¬ S r) (l1 : mb < w.heap.size) (l2 : r < w.heap.size) : RangeQ w' (some mb) r M vis rem cnt :=
  RangeK.kept (K := qK) (E := lnEl) h (hc.block _ l1 h1) (hc.block _ l2 h2)
theorem RangeQ.done {w : World} {mv : Option Nat} {r : Nat} {M vis : List (QK × Option Nat)} {cnt : Nat} (h : RangeQ w mv r M vis [] cnt) : vis.Perm M := by
  cases mv with
  | none => obtain ⟨_, rfl, rfl, _⟩ := h; exact List.Perm.refl _
  | some m => exact RangeK.done (K := qK) (E := lnEl) h
theorem RangeQ.len {w : World} {mv : Option Nat} {r : Nat} {M vis rem : List (QK × Option Nat)} {cnt : Nat} (h : RangeQ w mv r M vis rem cnt) : vis.length + rem.length = M.length := by
  cases mv with
  | none => obtain ⟨rfl, rfl, rfl, _⟩ := h; rfl
  | some m =>
    obtain ⟨_, _, hp, _⟩ := h
    have := hp.length_eq
    rw [List.length_append] at this
    exact this
/-- How much is to come. -/
def toComeQ (mv : Option Nat) (w : World) (r : Nat) : Nat := match mv with | none => 0 | some m => w.rangeLeft m r
theorem RangeQ.left {w : World} {m r : Nat} {M vis rem : List (QK × Option Nat)} {cnt : Nat} (h : RangeQ w (some m) r M vis rem cnt) : toComeQ (some m) w r = cnt := RangeK.left (K := qK) (E := lnEl) h
section
variable {w : World} {ops : Array Oper} {rest : List Oper} {o : Oper} {a : Act} {Q : Exit → Act → World → Prop}
theorem wpList_range_q (hg : o.guard = none) (m : Operand) (hop : o.op = Op.range 55 m) (mv : Option Nat) (L : List (QK × Nat))
    (hm : a.eval m = .map mv) (h : MapIs w mv L)
    (hK : ∀ w' cnt, RangeQ w' mv w.heap.size (someL L) [] (someL L) cnt → w.grownBy w' none → w'.heap.size = w.heap.size + 1 → wpList Tryz.prog ops Q rest (a.put o.dst (.pointer (some ⟨w.heap.size, 0, none⟩))) w') : wpList Tryz.prog ops Q (o :: rest) a w := by
  refine wpList_plain hg fun K' hK' => ?_
  have hs : ∃ w' cnt, (Instr.range 55 (.map mv)).run Tryz.prog w = .ok (.pointer (some ⟨w.heap.size, 0, none⟩)) w' ∧ RangeQ w' mv w.heap.size (someL L) [] (someL L) cnt ∧ w.grownBy w' none ∧ w'.heap.size = w.heap.size + 1 := by
    cases mv with
    | none =>
      have h2 : L = [] := h
      subst h2
      exact ⟨_, 0, run_range_nilMap w _ _ _ Tryz.underlying55, ⟨rfl, rfl, rfl, fun ty => run_next_nilMap w ty 0 0 #[]⟩, World.grownBy_alloc _ _ _, by simp⟩
    | some mb =>
      have h1 : MapK qK lnEl w mb (someL L) := h
      exact MapK.range (K := qK) (E := lnEl) h1 (t := 55) (e := 73) Tryz.underlying55
  obtain ⟨w', cnt, hrun, r1, r2, r3⟩ := hs
  unfold Oper.wp
  simp [execOp, hop, hm, hrun, Result.andThen]
  exact hK' _ _ (hK w' cnt r1 r2 r3)
theorem wpList_next_q (hg : o.guard = none) (it : Operand) (hop : o.op = Op.next it false) (mv : Option Nat) (r : Nat) (M vis rem : List (QK × Option Nat)) (cnt : Nat)
    (hit : a.eval it = .pointer (some ⟨r, 0, none⟩)) (h : RangeQ w mv r M vis rem cnt)
    (hDone : rem = [] → wpList Tryz.prog ops Q rest (a.put o.dst (.tuple #[.bool false])) w)
    (hMore : ∀ k b r1 r2 w' cnt', rem = r1 ++ (k, b) :: r2 → mv ≠ none → RangeQ w' mv r M (vis ++ [(k, b)]) (r1 ++ r2) cnt' → cnt' < cnt → w.grownBy w' (some r) → w'.heap.size = w.heap.size →
      (Instr.entry (.pointer (some ⟨r, 0, none⟩))).run Tryz.prog w' = .ok (.tuple #[k.kv, optV b]) w' → wpList Tryz.prog ops Q rest (a.put o.dst (.tuple #[.bool true, k.kv, optV b])) w') : wpList Tryz.prog ops Q (o :: rest) a w := by
  refine wpList_plain hg fun K' hK' => ?_
  unfold Oper.wp
  have hs : (rem = [] ∧ (Instr.next (.pointer (some ⟨r, 0, none⟩)) false o.type).run Tryz.prog w = .ok (.tuple #[.bool false]) w) ∨
    ∃ k b r1 r2 w' cnt', rem = r1 ++ (k, b) :: r2 ∧ mv ≠ none ∧ (Instr.next (.pointer (some ⟨r, 0, none⟩)) false o.type).run Tryz.prog w = .ok (.tuple #[.bool true, k.kv, optV b]) w' ∧ RangeQ w' mv r M (vis ++ [(k, b)]) (r1 ++ r2) cnt' ∧ cnt' < cnt ∧ w.grownBy w' (some r) ∧ w'.heap.size = w.heap.size ∧
      (Instr.entry (.pointer (some ⟨r, 0, none⟩))).run Tryz.prog w' = .ok (.tuple #[k.kv, optV b]) w' := by
    cases mv with
    | none =>
      obtain ⟨h1, _, _, h2⟩ := h
      exact .inl ⟨h1, h2 o.type⟩
    | some m =>
      rcases RangeK.next (K := qK) (E := lnEl) h o.type with h0 | ⟨k, b, r1, r2, w', cnt', h1, _, h2, h3, h4, h5, h6, h7⟩
      · exact .inl h0
      · exact .inr ⟨k, b, r1, r2, w', cnt', h1, by simp, h2, h3, h4, h5, h6, h7⟩
  rcases hs with ⟨h0, hrun⟩ | ⟨k, b, r1, r2, w', cnt', hr, hmb, hrun, hri, hlt, hgr, hsz, hen⟩
  · simp [execOp, hop, hit, hrun, Result.andThen]
    exact hK' _ _ (hDone h0)
  · simp [execOp, hop, hit, hrun, Result.andThen]
    exact hK' _ _ (hMore k b r1 r2 w' cnt' hr hmb hri hlt hgr hsz hen)
end
theorem RangeQ.grown {w w' : World} {m r base : Nat} {M vis rem : List (QK × Option Nat)} {cnt : Nat} {v : Value} {e : TypeId} {sz n : Nat} {xs : List Value} (h : RangeQ w (some m) r M vis rem cnt) (ho : w.ownsRow base e sz v n xs) (hg : w.grownBy w' v.ownBlock) (h1 : m < base) (h2 : r < base) (l1 : m < w.heap.size) (l2 : r < w.heap.size) : RangeQ w' (some m) r M vis rem cnt := by
  refine h.kept (Chg.of_grown (S := fun k => some k = v.ownBlock) hg (fun k hk _ => hk.symm)) (fun hx => ?_) (fun hx => ?_) l1 l2
  · have := (ho.lt m hx.symm).1; omega
  · have := (ho.lt r hx.symm).1; omega
theorem info_id : (Tryz.prog.info? 72).map (fun i => (i.zero, i.size, i.bytes)) = some (some (.agg #[.string ⟨#[]⟩, .int .i64 0]), 2, 24) := by kernel_rfl
theorem IdsAt.base {w : World} {b b' : Nat} {v : Value} {l : List QK} (h : IdsAt w b v l) (hb : b' ≤ b) : IdsAt w b' v l := by
  refine ⟨h.1, ?_⟩
  rcases h.2 with h0 | ⟨g, cap, cur, e, hbg, rest⟩
  · exact .inl h0
  · exact .inr ⟨g, cap, cur, e, by omega, rest⟩
/-- What ids hands back. -/
def IdsTo (L : List (QK × Nat)) (w : World) (e : Ending) (w' : World) : Prop := ∃ v l, e = .returned v ∧ l.Perm (L.map (·.1)) ∧ QSorted l ∧ IdsAt w' w.heap.size v l ∧ Below w.heap.size w w'
set_option maxHeartbeats 2000000 in
set_option maxRecDepth 100000 in
theorem qids_any {w : World} {qb d : Nat} {mv : Option Nat} {L : List (QK × Nat)} (h : w.heap[qb]? = some (.cells #[.pointer (some ⟨d, 0, none⟩), .map mv] 57 (0, 0))) (hm : MapIs w mv L) (hL : L.length ≤ 1000000) :
    Calls Tryz.prog 36 #[.pointer (some ⟨qb, 0, none⟩)] w (IdsTo L w) := by
  obtain ⟨c0, c1, z⟩ := qs_cell h
  have z1 := z 1
  obtain ⟨i0, hi, hz0, hz1, hz2⟩ := info_parts info_id
  obtain ⟨R, hR⟩ : ∃ R, R = w.heap.size := ⟨_, rfl⟩
  have HR := Lib.hid hR
  have hmR : ∀ m, mv = some m → m < R := fun m hx => by subst hx; rw [hR]; exact MapIs.lt hm
  have HMR := Lib.hid hmR
  have HM := Lib.hid hm
  have HLL : Hid ((someL L).length ≤ 1000000) := Lib.hid (by unfold someL; rw [List.length_map]; exact hL)
  obtain ⟨ML, hML⟩ : ∃ ML, ML = someL L := ⟨_, rfl⟩
  rw [← hML] at HLL
  have HML := Lib.hid hML
  clear h hm z hmR hL
  go_enter Tryz.func36, Tryz.ntmps36
  go_wp2_with (at_range; refine wpList_range_q rfl _ rfl mv L rfl HM.out ?_; intro w0 cnt0 hrg0 hg0 hs0)
  rw [← hR, ← hML] at hrg0
  rw [← hR] at hs0 ⊢
  go_frame
  have HRG := Lib.hid hrg0
  have HG0 := Lib.hid hg0
  have HS0 := Lib.hid hs0
  clear hrg0 hg0 hs0 hR hML
  go_loopw [3, 4] (fun u _ wr => ∃ v vis rem cnt, v = u ∧ RangeQ wr mv R ML vis rem cnt ∧ Below w.heap.size w wr ∧ R + 1 ≤ wr.heap.size ∧ IdsAt wr (R + 1) v (vis.map (·.1))) (fun _ _ wr => toComeQ mv wr R)
  case atStart => exact ⟨_, [], _, _, rfl, HRG.out, below_grown (Below.refl _ _) HG0.out (Nat.le_refl _), by rw [HS0.out]; exact Nat.le_refl _, World.ownsRow_nil _ _ _ _⟩
  case round =>
    obtain ⟨v, vis, rem, cnt, rfl, hrg, hbl, hsz, hown⟩ := hrel
    have HRG1 := Lib.hid hrg
    have HBL := Lib.hid hbl
    have HOWN := Lib.hid hown
    clear hrg hbl HRG hown
    obtain ⟨wo, hwo⟩ : ∃ wo : World, wo = wr := ⟨_, rfl⟩
    subst hwo
    go_wp2_with (at_next; refine wpList_next_q rfl _ rfl mv R ML vis rem cnt rfl HRG1.out ?cd ?cm)
    case cd =>
      intro hrem
      have hp : vis.Perm ML := by
        have := HRG1.out
        rw [hrem] at this
        exact this.done
      have hlen : (vis.map (·.1)).length < 4611686018427387904 := by
        rw [List.length_map, hp.length_eq]
        have := HLL.out
        omega
      have hs := qsort_any v (vis.map (·.1)) (R + 1) wo HOWN.out hlen
      have HP := Lib.hid hp
      have HSO := Lib.hid hs
      clear hrem hp hs hlen
      go_wp2_with (go_at_call 60; refine HSO.out.mono ?_; rintro e w2 ⟨rfl, l', hp2, hs2, ho2, hg2⟩)
      go_ret
      refine ⟨v, l', rfl, hp2.trans ?_, hs2, ho2.base (by have := HR.out; omega), ?_⟩
      · rw [← someL_keys, ← HML.out]
        exact HP.out.map _
      · refine HBL.out.grown hg2 HBL.out.size (fun k hk => ?_)
        have := (HOWN.out.lt k hk).1
        have := HR.out
        omega
    case cm =>
      intro kt kn kp b r1 r2 w2 cnt2 hrem hmb hrg2 hlt hg2 hs2 hen
      obtain ⟨m, hm⟩ : ∃ m, mv = some m := by
        cases hq : mv with
        | none => exact absurd hq hmb
        | some m => exact ⟨m, rfl⟩
      have hvl : vis.length + 1 ≤ 1000000 := by
        have h1 := HRG1.out.len
        have h2 := HLL.out
        rw [hrem, List.length_append, List.length_cons] at h1
        omega
      have hbl2 : Below w.heap.size w w2 := below_grown' HBL.out hg2 (Nat.le_refl _) (by rw [HR.out]; exact Nat.le_refl _)
      have hown2 : IdsAt w2 (R + 1) v (vis.map (·.1)) := HOWN.out.kept hg2 (by
        by_cases h0 : v.ownBlock = none
        · exact .inl h0
        · right
          intro hx
          have := (HOWN.out.lt R hx).1
          omega)
      have hme : cnt2 < toComeQ mv wo R := by
        have h2 := HRG1.out
        rw [hm] at h2 ⊢
        rw [h2.left]
        exact hlt
      have HRG2 := Lib.hid hrg2
      have HBL2 := Lib.hid hbl2
      have HME := Lib.hid hme
      have HM2 := Lib.hid hm
      have hsz2 : R + 1 ≤ w2.heap.size := by rw [hs2]; exact hsz
      obtain ⟨acc, hacc⟩ : ∃ acc, acc = vis.map (·.1) := ⟨_, rfl⟩
      have hal : acc.length + 1 ≤ 1000000 := by rw [hacc, List.length_map]; exact hvl
      rw [← hacc] at hown2
      have HACC := Lib.hid hacc
      have HOWN2 := Lib.hid hown2
      obtain ⟨kq, hkq⟩ : ∃ kq : QK, kq = ⟨(kt, kn), kp⟩ := ⟨_, rfl⟩
      have HK := Lib.hid hkq
      unfold QK.kv at hen ⊢
      dsimp only at hen ⊢
      clear hrem hmb hrg2 hlt hg2 hs2 hbl2 hown2 hme hm HRG1 HBL HOWN hvl hacc hkq
      go_wp2_with (at_builtin; refine wpList_append_own _ rfl (.tmp 16) (.tmp 18) 85 rfl (R + 1) 72 i0 _ 2 24 Tryz.underlying85 hi hz0 hz1 hz2 rfl (by decide) v acc.length (acc.flatMap qenc) rfl (World.ownsRow.alloc (World.ownsRow.alloc HOWN2.out _) _) ⟨w2.heap.size + 1, 0, none⟩ 1 1 (qenc kq) rfl rfl ?c1 (qenc_one _) ?c3 ?c4 ?c5 ?c6)
      case c1 =>
        intro j u hu
        rw [HK.out] at hu
        rw [add_none]
        have hu' : #[Value.string kt, Value.int .i64 kn][j]? = some u := by simpa [qenc] using hu
        simpa using hu'
      case c3 => unfold maxLen; omega
      case c4 => omega
      case c5 => first | omega | (simp; omega)
      case c6 =>
        intro v' w4 hown4 hgrow4 _
        have hm := HM2.out
        have hr4 : RangeQ w4 mv R ML (vis ++ [(kq, b)]) (r1 ++ r2) cnt2 := by
          have h1 := HRG2.out
          rw [← HK.out] at h1
          rw [hm] at h1 ⊢
          have l1 : m < w2.heap.size := by have := HMR.out m hm; omega
          have h2 := h1.kept (S := fun _ => False) (Chg.alloc (fun _ => False) (Chg.alloc (fun _ => False) (Chg.refl _ _) (.cells #[.string kt, .int .i64 kn] 72)) (.cells #[.string kt, .int .i64 kn] 72)) (fun x => x) (fun x => x) l1 (by omega)
          exact h2.grown (World.ownsRow.alloc (World.ownsRow.alloc HOWN2.out _) _) hgrow4 (by have := HMR.out m hm; omega) (by omega) (by simp; omega) (by simp; omega)
        have hb4 : Below w.heap.size w w4 := by
          have h1 := ((HBL2.out).alloc HBL2.out.size (.cells #[.string kt, .int .i64 kn] 72)).alloc (by have := HBL2.out.size; simp; omega) (.cells #[.string kt, .int .i64 kn] 72)
          refine h1.grown hgrow4 h1.size (fun k hk => ?_)
          have := (HOWN2.out.lt k hk).1
          have := HR.out
          omega
        have hs4 : R + 1 ≤ w4.heap.size := by have := hgrow4.size; simp at this; omega
        have hme4 : toComeQ mv w4 R < toComeQ mv wo R := by
          have h1 := hr4
          have h2 := HME.out
          rw [hm] at h1 h2 ⊢
          rw [h1.left]
          exact h2
        have HR4 := Lib.hid hr4
        have HB4 := Lib.hid hb4
        have HO4 := Lib.hid hown4
        have HME4 := Lib.hid hme4
        clear hr4 hb4 hown4 hgrow4 hm hme4
        go_wp2_with fail
        refine ⟨⟨v', vis ++ [(kq, b)], r1 ++ r2, cnt2, rfl, HR4.out, HB4.out, hs4, ?_⟩, HME4.out⟩
        unfold IdsAt
        rw [List.map_append, ← HACC.out, List.length_append, List.flatMap_append]
        simpa using HO4.out
end Go.Proofs.YtmhojpipmllphaaGreatDoor

namespace Go.Proofs.YtmhojpipmllphaaGreatDoor
open Go.RowKit Go.Deep
set_option linter.unusedVariables false
set_option linter.unusedSimpArgs false

set_option maxHeartbeats 2000000 in
set_option maxRecDepth 100000 in
theorem qadd_bad (qb : Nat) (t : ByteArray) (ht : t.size ≤ maxLen) (q : Int) (p : PlM) (w : World) (r : Int) (hr : refQ t q = r) (hr0 : (r != 0) = true) :
    Calls Tryz.prog 9 #[.pointer (some ⟨qb, 0, none⟩), .string t, .int .i64 q, p.val] w fun e w' => e = .returned (.tuple #[.int .i64 0, .int .i64 r]) ∧ Below w.heap.size w w' := by
  obtain ⟨a, b, c, d⟩ := p
  unfold PlM.val
  dsimp only
  have hb0 : Below w.heap.size w (w.alloc (.cells #[.int .i64 a, .int .i64 b, .int .i64 c, .int .i64 d] 32)) := (Below.refl _ _).alloc (Nat.le_refl _) _
  have HB0 := Lib.hid hb0
  have hR := fun W => qrefuses_any qb t ht q W
  rw [hr] at hR
  have HR := Lib.hid hR
  clear hb0 hR hr
  go_enter Tryz.func9, Tryz.ntmps9
  go_wp2_with fail
  refine (HR.out _).mono ?_
  rintro e w1 ⟨rfl, hb1⟩
  have HB1 := Lib.hid (HB0.out.trans (hb1.mono HB0.out.size))
  clear hb1
  go_wp2_with fail
  go_ret2
  exact ⟨rfl, HB1.out⟩
set_option maxHeartbeats 2000000 in
set_option maxRecDepth 100000 in
theorem qadd_arg (qb : Nat) (t : ByteArray) (ht : t.size ≤ maxLen) (q : Int) (p : PlM) (w : World) (hr : refQ t q = 0) (hp : p.fit = false) :
    Calls Tryz.prog 9 #[.pointer (some ⟨qb, 0, none⟩), .string t, .int .i64 q, p.val] w fun e w' => e = .returned (.tuple #[.int .i64 0, .int .i64 1]) ∧ Below w.heap.size w w' := by
  have hP := fun W => placePut_any p.a p.b p.c p.d W
  unfold PutPost at hP
  rw [show fit4 [6, 2, 5, 7] [p.a, p.b, p.c, p.d] = false from hp] at hP
  obtain ⟨s, hs⟩ : ∃ s, s = put4 [6, 2, 5, 7] [p.a, p.b, p.c, p.d] := ⟨_, rfl⟩
  rw [← hs] at hP
  obtain ⟨a, b, c, d⟩ := p
  unfold PlM.val
  dsimp only at hP ⊢
  obtain ⟨W0, hW0⟩ : ∃ W, W = w.alloc (.cells #[.int .i64 a, .int .i64 b, .int .i64 c, .int .i64 d] 32) := ⟨_, rfl⟩
  have hb0 : Below w.heap.size w W0 := hW0 ▸ (Below.refl _ _).alloc (Nat.le_refl _) _
  have k0 : W0.cell? ⟨w.heap.size, 0, none⟩ = some (.int .i64 a) := hW0 ▸ cells4 w a b c d _ 0 (by decide)
  have k1 : W0.cell? ⟨w.heap.size, 1, none⟩ = some (.int .i64 b) := hW0 ▸ cells4 w a b c d _ 1 (by decide)
  have k2 : W0.cell? ⟨w.heap.size, 2, none⟩ = some (.int .i64 c) := hW0 ▸ cells4 w a b c d _ 2 (by decide)
  have k3 : W0.cell? ⟨w.heap.size, 3, none⟩ = some (.int .i64 d) := hW0 ▸ cells4 w a b c d _ 3 (by decide)
  have HW0 := Lib.hid hW0
  have HB0 := Lib.hid hb0
  have hR := fun W => qrefuses_any qb t ht q W
  rw [hr] at hR
  have HR := Lib.hid hR
  have HP := Lib.hid hP
  clear hb0 hR hr hP hs hW0 hp
  go_enter Tryz.func9, Tryz.ntmps9
  go_upto_region 1 with fail
  rw [← HW0.out]
  go_wp2_with fail
  refine (HR.out _).mono ?_
  rintro e w1 ⟨rfl, hb1⟩
  have HB1 := Lib.hid (HB0.out.trans (hb1.mono HB0.out.size))
  have k0 := keep4 hb1 k0
  have k1 := keep4 hb1 k1
  have k2 := keep4 hb1 k2
  have k3 := keep4 hb1 k3
  clear hb1
  go_wp2_with fail
  refine (HP.out _).mono ?_
  rintro e w2 ⟨rfl, hb2⟩
  have HB2 := Lib.hid (HB1.out.trans (hb2.mono HB1.out.size))
  clear hb2
  go_wp2_with fail
  go_ret2
  exact ⟨rfl, HB2.out⟩
set_option maxHeartbeats 4000000 in
set_option maxRecDepth 100000 in
theorem qadd_any {w0 w : World} {qb : Nat} {mv : Option Nat} {g : Gh} {st : St} {n : Nat} {L : List (QK × LnM)} (h : QsI w0 w qb mv g st n L) (hL : L.length ≤ 1000000) (hn : n ≤ 900) (k' : QK) (t : ByteArray) (q : Nat) (hk1 : k'.1.1 = t) (hk2 : k'.1.2 = (q : Int)) (ht : topicB t = true) (hq : q ≤ 2) (p : PlM) (hp : p.fit = true) (hcap : st.size + 20 ≤ st.cap) :
    Calls Tryz.prog 9 #[.pointer (some ⟨qb, 0, none⟩), .string t, .int .i64 (q : Int), p.val] w (QAddTo w0 w qb mv g st n L k' p) := by
  have ht16 := (topic_small ht).2
  have hR := fun W => qrefuses_any qb t (by unfold maxLen; omega) (q : Int) W
  rw [show refQ t (q : Int) = 0 from by unfold refQ; rw [if_pos ht, if_pos (by omega)]] at hR
  have hP := fun W => placePut_any p.a p.b p.c p.d W
  unfold PutPost at hP
  rw [show fit4 [6, 2, 5, 7] [p.a, p.b, p.c, p.d] = true from hp, show put4 [6, 2, 5, 7] [p.a, p.b, p.c, p.d] = p.tx from rfl] at hP
  obtain ⟨s, hs⟩ : ∃ s, s = p.tx := ⟨_, rfl⟩
  rw [← hs] at hP
  have HPS := Lib.hid hs
  have HP := Lib.hid hP
  have HR := Lib.hid hR
  have HFIT := Lib.hid hp
  have HKV : Hid (k'.kv = .agg #[.string t, .int .i64 (q : Int)]) := Lib.hid (by unfold QK.kv; rw [hk1, hk2])
  have HOP : Hid (∀ W, Chg (fun _ => False) w W → Calls Tryz.prog 26 #[.pointer (some ⟨qb, 0, none⟩), .agg #[.string t, .int .i64 (q : Int)]] W (QOpenTo w0 W qb mv g st n L k')) := Lib.hid (fun W hW => qopen_any (h.q.new hW) (h.map.new hW) (by omega) k' t q hk1 hk2 ht hq)
  obtain ⟨hel, hbb⟩ := lnD_el h.q k'
  have HH := Lib.hid h
  obtain ⟨x0, hx0⟩ : ∃ x, x = lnD L k' := ⟨_, rfl⟩
  rw [← hx0] at hel hbb
  have HX0 := Lib.hid hx0
  obtain ⟨res, hres⟩ : ∃ r : Nat, r = x0.base + x0.es.length := ⟨_, rfl⟩
  have HRES := Lib.hid hres
  obtain ⟨pa, pb, pc, pd⟩ := p
  obtain ⟨W0, hW0⟩ : ∃ W, W = w.alloc (.cells #[.int .i64 pa, .int .i64 pb, .int .i64 pc, .int .i64 pd] 32) := ⟨_, rfl⟩
  have hb0 : Below w.heap.size w W0 := hW0 ▸ (Below.refl _ _).alloc (Nat.le_refl _) _
  have k0 : W0.cell? ⟨w.heap.size, 0, none⟩ = some (.int .i64 pa) := hW0 ▸ cells4 w pa pb pc pd _ 0 (by decide)
  have k1 : W0.cell? ⟨w.heap.size, 1, none⟩ = some (.int .i64 pb) := hW0 ▸ cells4 w pa pb pc pd _ 1 (by decide)
  have k2 : W0.cell? ⟨w.heap.size, 2, none⟩ = some (.int .i64 pc) := hW0 ▸ cells4 w pa pb pc pd _ 2 (by decide)
  have k3 : W0.cell? ⟨w.heap.size, 3, none⟩ = some (.int .i64 pd) := hW0 ▸ cells4 w pa pb pc pd _ 3 (by decide)
  have HW0 := Lib.hid hW0
  have HB0 := Lib.hid hb0
  clear hR hP hs hk1 hk2 ht h hx0 hres hW0 hb0 hp
  unfold PlM.val
  dsimp only at HP ⊢
  go_enter Tryz.func9, Tryz.ntmps9
  go_upto_region 1 with fail
  rw [← HW0.out]
  go_wp2_with fail
  refine (HR.out _).mono ?_
  rintro e w1 ⟨rfl, hb1⟩
  have HB1 := Lib.hid (HB0.out.trans (hb1.mono HB0.out.size))
  have k0 := keep4 hb1 k0
  have k1 := keep4 hb1 k1
  have k2 := keep4 hb1 k2
  have k3 := keep4 hb1 k3
  clear hb1
  go_wp2_with fail
  refine (HP.out _).mono ?_
  rintro e w2 ⟨rfl, hb2⟩
  have HB2 := Lib.hid (HB1.out.trans (hb2.mono HB1.out.size))
  clear hb2 k0 k1 k2 k3
  obtain ⟨w3, hw3⟩ : ∃ W, W = w2.alloc (.cells #[.string t, .int .i64 (q : Int)] 72) := ⟨_, rfl⟩
  have hb3 : Below w2.heap.size w2 w3 := hw3 ▸ (Below.refl _ _).alloc (Nat.le_refl _) _
  have i0 : w3.cell? ⟨w2.heap.size, 0, none⟩ = some (.string t) := by rw [hw3]; simp
  have i1 : w3.cell? ⟨w2.heap.size, 1, none⟩ = some (.int .i64 (q : Int)) := by rw [hw3]; simp
  have hs3 : w3.heap.size = w2.heap.size + 1 := by rw [hw3, World.size_alloc]
  have hc3 : Chg (fun _ => False) w w3 := (Chg.of_below HB2.out : Chg (fun _ => False) w w2).trans (Chg.of_below hb3) (fun _ _ x => x)
  have HC3 := Lib.hid hc3
  have HW3 := Lib.hid hw3
  clear hb3 hw3 hc3
  go_upto_region 8 with fail
  rw [← HW3.out]
  go_wp2_with fail
  refine (HOP.out _ HC3.out).mono ?_
  rintro e w4 ⟨x', g', rfl, a1, a2, a3, a4, a5, a6, a7, a8, a9⟩
  obtain ⟨r, hr⟩ := Option.isSome_iff_exists.1 a4
  have hidb : ∀ y, qAll qb mv L g y → y < w2.heap.size := fun y hy => Nat.lt_of_lt_of_le (HH.out.q.lt_all y hy) HB2.out.size
  have hnid : ¬ qAll qb mv (dropK L k' ++ [(k', x')]) g' w2.heap.size := fun hx => by
    rcases a3.new _ hx with y | y
    · have := hidb _ y; omega
    · omega
  have i0 := a3.chg.cell (p := ⟨w2.heap.size, 0, none⟩) i0 (fun hx => Nat.lt_irrefl _ (hidb _ hx))
  have i1 := a3.chg.cell (p := ⟨w2.heap.size, 1, none⟩) i1 (fun hx => Nat.lt_irrefl _ (hidb _ hx))
  have hlm : LnOk w0 w4 g' st n k' x' := a1.ln _ (List.mem_append_right _ (List.mem_singleton.2 rfl))
  have hN := qnext_any hlm (by omega)
  rw [a5, a7, ← HX0.out, ← HRES.out] at hN
  have HN := Lib.hid hN
  have hA := qappend_any (a1.new ((Chg.refl (fun _ => False) w4).drewN 0)) hr hn ⟨pa, pb, pc, pd⟩ HFIT.out hcap
  have HA : Hid (∀ y, Calls Tryz.prog 28 #[.pointer (some ⟨r, 0, none⟩), .string s] (w4.drewN y) fun e w' => e = .returned (.tuple #[.int .i64 ((20 * x'.es.length : Nat) : Int), .int .i64 0]) ∧ QAppTo w0 (w4.drewN y) qb mv g' st n (dropK L k') k' x' ⟨pa, pb, pc, pd⟩ w') := Lib.hid (fun y => by
    rw [HPS.out]
    exact qappend_any (a1.new ((Chg.refl _ _).drewN y)) hr hn ⟨pa, pb, pc, pd⟩ HFIT.out hcap)
  obtain ⟨c0, c1, c2, z⟩ := line_cell hlm.at_
  rw [hr] at c0
  unfold optV at c0
  dsimp only [Option.map_some] at c0
  obtain ⟨e20, he20⟩ : ∃ y : Int, y = ((20 * x'.es.length : Nat) : Int) := ⟨_, rfl⟩
  rw [← he20] at HA
  obtain ⟨lb, hlb⟩ : ∃ y, y = x'.lb := ⟨_, rfl⟩
  rw [← hlb] at HN c0 ⊢
  have HLB := Lib.hid hlb
  have HAA := Lib.hid (And.intro a2 (And.intro a3 (And.intro a5 (And.intro a6 (And.intro a7 (And.intro a8 a9))))))
  have HNI := Lib.hid hnid
  clear a1 a2 a3 a4 a5 a6 a7 a8 a9 hr hidb hnid hlm hN hA c1 c2 z he20 hlb
  go_wp2_with fail
  refine HN.out.mono ?_
  rintro e w5 ⟨rfl, y5, rfl⟩
  go_wp2_with fail
  refine (HA.out y5).mono ?_
  rintro e w6 ⟨rfl, g6, st6, b1, b2, b3, b4, b5, b6, b7⟩
  have i0 := b2.chg.cell (p := ⟨w2.heap.size, 0, none⟩) i0 HNI.out
  have i1 := b2.chg.cell (p := ⟨w2.heap.size, 1, none⟩) i1 HNI.out
  have hm6 := b5 _ (HAA.out.1.new ((Chg.refl _ _).drewN y5))
  have hK := qkeep_any b1 hm6 (by unfold lbs; rw [List.length_map]; exact hL) k' t q HKV.out lb
  have HK := Lib.hid hK
  have HBB := Lib.hid (And.intro b2 (And.intro b3 (And.intro b4 (And.intro b6 b7))))
  clear b1 b2 b3 b4 b5 b6 b7 hm6 hK
  go_wp2_with fail
  refine HK.out.mono ?_
  rintro e w7 ⟨rfl, mv', d1, d2, d3⟩
  have HD := Lib.hid (And.intro d1 (And.intro d2 d3))
  clear d1 d2 d3
  go_wp2_with fail
  go_ret2
  obtain ⟨a2, a3, a5, a6, a7, a8, a9⟩ := HAA.out
  obtain ⟨b2, b3, b4, b6, b7⟩ := HBB.out
  obtain ⟨d1, d2, d3⟩ := HD.out
  refine ⟨addE x' ⟨pa, pb, pc, pd⟩, mv', g6, st6, by show Ending.returned (.tuple #[.int .i64 (res : Int), .int .i64 0]) = _; rw [HRES.out, HX0.out], ⟨d1, by rw [lbs_drop]; rw [HLB.out] at d2; exact d2, fun z hz => ?_⟩, ?_, b3, b4, a5, a6, by show x'.es ++ _ = _; rw [a7], a8, b6, b7.trans a9⟩
  · rcases List.mem_append.1 hz with y | y
    · exact HH.out.lo z (List.mem_filter.1 y).1
    · rw [List.mem_singleton] at y
      subst y
      show x'.lo ≤ x'.least
      rw [a8, a6]
      exact lnD_lo HH.out.lo k'
  · exact ((((QTo.of_new HC3.out).trans a3).trans (QTo.of_new ((Chg.refl _ _).drewN y5))).trans b2).trans d3
end Go.Proofs.YtmhojpipmllphaaGreatDoor

namespace Go.Proofs.YtmhojpipmllphaaGreatDoor
open Go.RowKit Go.Deep
set_option linter.unusedVariables false
set_option linter.unusedSimpArgs false

theorem qNewS_new (c : Int) : qNewS (newSt c) = newSt c := by
  unfold qNewS
  rw [List.eq_nil_of_length_eq_zero (Nat.le_zero.1 (namesS_length qH (newSt c)))]
  rfl
/-- Queues on a new disk. -/
def QFirst (w0 : World) (c : Int) (e : Ending) (w' : World) : Prop := ∃ qb g', e = .returned (.tuple #[.pointer (some ⟨qb, 0, none⟩), .int .i64 0]) ∧ QsI w0 w' qb none g' (newSt c) 0 []
theorem qfirst_new {w0 w w' : World} (hc : Chg (fun _ => False) w0 w) (ht : Tab10 w0) (c : Int) (hd : DiskAt w' ⟨w.heap.size, none, []⟩ (newSt c)) (hb : Below w.heap.size w w') : Calls Tryz.prog 5 #[.pointer (some ⟨w.heap.size, 0, none⟩)] w' (QFirst w0 c) := by
  have hg : DiskG w0 w' w.heap.size ⟨w.heap.size, none, []⟩ (newSt c) := ⟨hd, rfl, hc.trans (Chg.of_below hb : Chg (fun _ => False) w w') (fun _ _ x => x), fun q hq => by simp [Gh.fp] at hq; rw [hq]; exact hc.size⟩
  refine (qnew_any hg ht ⟨Good.new c, rfl, rfl⟩ (by decide) (fun p hp => by cases hp)).mono ?_
  rintro e w2 ⟨qb, g', rfl, _, h, _⟩
  rw [qNewS_new] at h
  exact ⟨qb, g', rfl, h⟩
def aT : ByteArray := ⟨#[97]⟩
theorem aT_topic : topicB aT = true := by decide +kernel
def kA : QK := ⟨(aT, 0), by decide, by decide⟩
theorem getK_last {β : Type} (L : List (QK × β)) (k : QK) (x : β) : getK (dropK L k ++ [(k, x)]) k = some x := by
  unfold getK
  rw [List.find?_append]
  have : (dropK L k).find? (fun p => decide (p.1 = k)) = none := List.find?_eq_none.2 fun p hp => by simp [dropK_ne p hp]
  rw [this]
  simp
theorem getK_other {β : Type} (L : List (QK × β)) (k k2 : QK) (x : β) (h : k2 ≠ k) : getK (dropK L k ++ [(k, x)]) k2 = getK L k2 := by
  unfold getK dropK
  rw [List.find?_append, List.find?_filter]
  have e : (fun p : QK × β => !decide (p.1 = k) && decide (p.1 = k2)) = fun p => decide (p.1 = k2) := by
    funext p
    by_cases hp : p.1 = k2
    · simp [hp, h]
    · simp [hp]
  have h2 : ¬ k = k2 := fun hx => h hx.symm
  simp [e, h2]
theorem lnD_last (L : List (QK × LnM)) (k : QK) (x : LnM) : lnD (dropK L k ++ [(k, x)]) k = x := by unfold lnD; rw [getK_last]; rfl
theorem zeroP_fit : zeroP.fit = true := by decide +kernel
set_option maxHeartbeats 2000000 in
set_option maxRecDepth 100000 in
theorem qawake_any (w : World) (ht : Tab10 w) : Calls Tryz.prog 4 #[] w fun e w' => e = .returned (.bool true) ∧ Chg (fun _ => False) w w' := by
  have HT := Lib.hid ht
  have HN := Lib.hid (new_any 10000 w)
  clear ht
  go_enter Tryz.func4, Tryz.ntmps4
  go_wp2_with fail
  refine HN.out.mono ?_
  rintro e w1 ⟨rfl, hd1, hb1⟩
  have HQ := Lib.hid (qfirst_new (Chg.refl _ w) HT.out 10000 hd1 hb1)
  clear hd1 hb1
  go_wp2_with fail
  refine HQ.out.mono ?_
  rintro e w2 ⟨qb, g, rfl, h2⟩
  have HA := Lib.hid (qadd_any h2 (Nat.zero_le _) (by decide) kA aT 0 rfl rfl aT_topic (by decide) zeroP zeroP_fit (by decide))
  clear h2
  go_wp2_with fail
  refine HA.out.mono ?_
  rintro e w3 ⟨x1, mv1, g1, st1, rfl, a1, a2, a3, a4, a5, a6, a7, a8, a9⟩
  have hB := qadd_any a1 (show 1 ≤ 1000000 by decide) (by decide) kA aT 0 rfl rfl aT_topic (by decide) zeroP zeroP_fit (by rw [a3, a4]; decide)
  have HB : Hid (Calls Tryz.prog 9 #[.pointer (some ⟨qb, 0, none⟩), .string aT, .int .i64 0, zeroP.val] w3 fun e w' => e = .returned (.tuple #[.int .i64 1, .int .i64 0]) ∧ Chg (fun _ => False) w w') := Lib.hid (hB.mono (by
    rintro e w' ⟨x2, mv2, g2, st2, rfl, b1, b2, b3, b4, b5, b6, b7, b8, b9⟩
    rw [lnD_last, a5, a7]
    exact ⟨rfl, b1.q.disk.chg⟩))
  clear a1 a2 a3 a4 a5 a6 a7 a8 a9 hB
  go_wp2_with fail
  refine HB.out.mono ?_
  rintro e w4 ⟨rfl, hc4⟩
  have HC := Lib.hid hc4
  clear hc4
  go_wp2_with fail
  go_ret
  exact ⟨rfl, HC.out⟩
end Go.Proofs.YtmhojpipmllphaaGreatDoor

namespace Go.Proofs.YtmhojpipmllphaaGreatDoor
open Go.RowKit Go.Deep
set_option linter.unusedVariables false
set_option linter.unusedSimpArgs false

set_option maxHeartbeats 2000000 in
set_option maxRecDepth 100000 in
theorem qbase_bad (qb : Nat) (t : ByteArray) (ht : t.size ≤ maxLen) (q a : Int) (w : World) (r : Int) (hr : refQ t q = r) (hr0 : (r != 0) = true) :
    Calls Tryz.prog 11 #[.pointer (some ⟨qb, 0, none⟩), .string t, .int .i64 q, .int .i64 a] w fun e w' => e = .returned (.int .i64 r) ∧ Below w.heap.size w w' := by
  have hR := fun W => qrefuses_any qb t ht q W
  rw [hr] at hR
  have HR := Lib.hid hR
  clear hR hr
  go_enter Tryz.func11, Tryz.ntmps11
  go_wp2_with fail
  refine (HR.out _).mono ?_
  rintro e w1 ⟨rfl, hb1⟩
  have HB1 := Lib.hid hb1
  clear hb1
  go_wp2_with fail
  go_ret
  exact ⟨rfl, HB1.out⟩
set_option maxHeartbeats 2000000 in
set_option maxRecDepth 100000 in
theorem qbase_range (qb : Nat) (t : ByteArray) (ht : t.size ≤ maxLen) (q a : Int) (w : World) (hr : refQ t q = 0) (ha : a < 0 ∨ 1099511627776 < a) :
    Calls Tryz.prog 11 #[.pointer (some ⟨qb, 0, none⟩), .string t, .int .i64 q, .int .i64 a] w fun e w' => e = .returned (.int .i64 2) ∧ Below w.heap.size w w' := by
  have hR := fun W => qrefuses_any qb t ht q W
  rw [hr] at hR
  have HR := Lib.hid hR
  clear hR hr
  by_cases h0 : a < 0
  · clear ha
    go_enter Tryz.func11, Tryz.ntmps11
    go_wp2_with fail
    refine (HR.out _).mono ?_
    rintro e w1 ⟨rfl, hb1⟩
    have HB1 := Lib.hid hb1
    clear hb1
    go_wp2_with fail
    go_ret
    exact ⟨rfl, HB1.out⟩
  · have h1 : 1099511627776 < a := by omega
    clear ha
    go_enter Tryz.func11, Tryz.ntmps11
    go_wp2_with fail
    refine (HR.out _).mono ?_
    rintro e w1 ⟨rfl, hb1⟩
    have HB1 := Lib.hid hb1
    clear hb1
    go_wp2_with fail
    go_ret
    exact ⟨rfl, HB1.out⟩
/-- What Base leaves. -/
def QBaseTo (w0 w : World) (qb : Nat) (mv : Option Nat) (g : Gh) (st : St) (n : Nat) (L : List (QK × LnM)) (k : QK) (a : Nat) (e : Ending) (w' : World) : Prop :=
  ∃ lb mv', e = .returned (.int .i64 0) ∧ QsI w0 w' qb mv' g st n (dropK L k ++ [(k, ⟨lb, a, a, [], none, a⟩)]) ∧ QTo w (qAll qb mv L g) w' (qAll qb mv' (dropK L k ++ [(k, ⟨lb, a, a, [], none, a⟩)]) g)
set_option maxHeartbeats 4000000 in
set_option maxRecDepth 100000 in
theorem qbase_there {w0 w : World} {qb : Nat} {mv : Option Nat} {g : Gh} {st : St} {n : Nat} {L : List (QK × LnM)} (h : QsI w0 w qb mv g st n L) (k' : QK) (t : ByteArray) (q : Nat) (hk1 : k'.1.1 = t) (hk2 : k'.1.2 = (q : Int)) (ht : topicB t = true) (hq : q ≤ 2) (a : Nat) (ha : a ≤ 1099511627776) (hg : (getK L k').isSome = true) :
    Calls Tryz.prog 11 #[.pointer (some ⟨qb, 0, none⟩), .string t, .int .i64 (q : Int), .int .i64 (a : Int)] w fun e w' => e = .returned (.int .i64 10) ∧ Below w.heap.size w w' := by
  have ht16 := (topic_small ht).2
  have hR := fun W => qrefuses_any qb t (by unfold maxLen; omega) (q : Int) W
  rw [show refQ t (q : Int) = 0 from by unfold refQ; rw [if_pos ht, if_pos (by omega)]] at hR
  have HR := Lib.hid hR
  obtain ⟨x, hx⟩ := Option.isSome_iff_exists.1 hg
  have HF : Hid (∀ W, Chg (fun _ => False) w W → Calls Tryz.prog 30 #[.pointer (some ⟨qb, 0, none⟩), .agg #[.string t, .int .i64 (q : Int)]] W fun e w' => e = .returned (.pointer (some ⟨x.lb, 0, none⟩)) ∧ Below W.heap.size W w') := Lib.hid (fun W hW => by
    have h0 := h.new hW
    have := qfind_any h0.q.at_ h0.map k'
    rw [getK_lbs, hx, hk1, hk2] at this
    exact this)
  clear hR hk1 hk2 ht h hg hx
  go_enter Tryz.func11, Tryz.ntmps11
  go_wp2_with fail
  refine (HR.out _).mono ?_
  rintro e w1 ⟨rfl, hb1⟩
  obtain ⟨w2, hw2⟩ : ∃ W, W = w1.alloc (.cells #[.string t, .int .i64 (q : Int)] 72) := ⟨_, rfl⟩
  have hb2 : Below w.heap.size w w2 := by rw [hw2]; exact hb1.alloc hb1.size _
  have HB2 := Lib.hid hb2
  have HW2 := Lib.hid hw2
  have i0 : w2.cell? ⟨w1.heap.size, 0, none⟩ = some (.string t) := by rw [hw2]; simp
  have i1 : w2.cell? ⟨w1.heap.size, 1, none⟩ = some (.int .i64 (q : Int)) := by rw [hw2]; simp
  clear hb1 hw2 hb2
  go_upto_region 7 with fail
  rw [← HW2.out]
  go_wp2_with fail
  refine (HF.out w2 (Chg.of_below HB2.out)).mono ?_
  rintro e w3 ⟨rfl, hb3⟩
  have HB3 := Lib.hid (HB2.out.trans (hb3.mono HB2.out.size))
  clear hb3
  go_wp2_with fail
  go_ret
  exact ⟨rfl, HB3.out⟩
set_option maxHeartbeats 4000000 in
set_option maxRecDepth 100000 in
theorem qbase_any {w0 w : World} {qb : Nat} {mv : Option Nat} {g : Gh} {st : St} {n : Nat} {L : List (QK × LnM)} (h : QsI w0 w qb mv g st n L) (hL : L.length ≤ 1000000) (k' : QK) (t : ByteArray) (q : Nat) (hk1 : k'.1.1 = t) (hk2 : k'.1.2 = (q : Int)) (ht : topicB t = true) (hq : q ≤ 2) (a : Nat) (ha : a ≤ 1099511627776) (hg : getK L k' = none) :
    Calls Tryz.prog 11 #[.pointer (some ⟨qb, 0, none⟩), .string t, .int .i64 (q : Int), .int .i64 (a : Int)] w (QBaseTo w0 w qb mv g st n L k' a) := by
  have ht16 := (topic_small ht).2
  have hR := fun W => qrefuses_any qb t (by unfold maxLen; omega) (q : Int) W
  rw [show refQ t (q : Int) = 0 from by unfold refQ; rw [if_pos ht, if_pos (by omega)]] at hR
  have HR := Lib.hid hR
  have HF : Hid (∀ W, Chg (fun _ => False) w W → Calls Tryz.prog 30 #[.pointer (some ⟨qb, 0, none⟩), .agg #[.string t, .int .i64 (q : Int)]] W fun e w' => e = .returned (.pointer none) ∧ Below W.heap.size W w') := Lib.hid (fun W hW => by
    have h0 := h.new hW
    have := qfind_any h0.q.at_ h0.map k'
    rw [getK_lbs, hg, hk1, hk2] at this
    exact this)
  have hdk : dropK L k' = L := dropK_none hg
  have HKP : Hid (∀ W, Chg (fun _ => False) w W → Calls Tryz.prog 29 #[.pointer (some ⟨qb, 0, none⟩), .agg #[.string t, .int .i64 (q : Int)], .pointer (some ⟨W.heap.size, 0, none⟩)] (W.alloc (.cells #[.pointer none, .int .i64 (a : Int), .int .i64 (a : Int)] 80)) fun e w' => e = .returned (.tuple #[]) ∧ QBaseTo w0 w qb mv g st n L k' a (.returned (.int .i64 0)) w') := Lib.hid (fun W hW => by
    have h0 := h.new hW
    obtain ⟨l1, l2⟩ := h0.q.line (k := k') (Nat.le_trans h.q.disk.chg.size hW.size) hg (by rw [hk1]; exact ht) (by rw [hk2]; omega) a ha
    have hm := h0.map.new (Chg.alloc (fun _ => False) (Chg.refl _ W) (.cells #[.pointer none, .int .i64 (a : Int), .int .i64 (a : Int)] 80))
    refine (qkeep_any l1 hm (by unfold lbs; rw [List.length_map]; exact hL) k' t q (by unfold QK.kv; rw [hk1, hk2]) W.heap.size).mono ?_
    rintro e w' ⟨rfl, mv', d1, d2, d3⟩
    refine ⟨rfl, W.heap.size, mv', rfl, ⟨by rw [hdk]; exact d1, by rw [lbs_drop]; exact d2, fun z hz => ?_⟩, by rw [hdk]; exact ((QTo.of_new hW).trans l2).trans d3⟩
    rw [hdk] at hz
    rcases List.mem_append.1 hz with y | y
    · exact h.lo z y
    · rw [List.mem_singleton] at y
      subst y
      exact Nat.le_refl _)
  clear hR hk1 hk2 ht h hg hdk
  go_enter Tryz.func11, Tryz.ntmps11
  go_wp2_with fail
  refine (HR.out _).mono ?_
  rintro e w1 ⟨rfl, hb1⟩
  obtain ⟨w2, hw2⟩ : ∃ W, W = w1.alloc (.cells #[.string t, .int .i64 (q : Int)] 72) := ⟨_, rfl⟩
  have hb2 : Below w.heap.size w w2 := by rw [hw2]; exact hb1.alloc hb1.size _
  have HB2 := Lib.hid hb2
  have HW2 := Lib.hid hw2
  have i0 : w2.cell? ⟨w1.heap.size, 0, none⟩ = some (.string t) := by rw [hw2]; simp
  have i1 : w2.cell? ⟨w1.heap.size, 1, none⟩ = some (.int .i64 (q : Int)) := by rw [hw2]; simp
  clear hb1 hw2 hb2
  go_upto_region 7 with fail
  rw [← HW2.out]
  go_wp2_with fail
  refine (HF.out w2 (Chg.of_below HB2.out)).mono ?_
  rintro e w3 ⟨rfl, hb3⟩
  have HB3 := Lib.hid (HB2.out.trans (hb3.mono HB2.out.size))
  have i0 := keep4 hb3 i0
  have i1 := keep4 hb3 i1
  clear hb3
  go_wp2_with fail
  refine (HKP.out w3 (Chg.of_below HB3.out)).mono ?_
  rintro e w4 ⟨rfl, hq4⟩
  have HQ4 := Lib.hid hq4
  clear hq4
  go_wp2_with fail
  go_ret
  exact HQ4.out
end Go.Proofs.YtmhojpipmllphaaGreatDoor

