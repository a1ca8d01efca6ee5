/-
  Part 38: what the statement needs of these texts: QModT.
-/
import Derived.BigQuiet
import Derived.BigRegion
import Derived.Deep.AppendLies
import Derived.Deep.DrawnRows
import Derived.Deep.OwnRows
import Derived.Deep.QuietTactic
import Derived.Deep.RegionHeld3
import Derived.DeepKeys4
import Derived.IntWalk
import Derived.Laws.CopyOwn
import Derived.Laws.OwnMore
import Derived.Laws.RangeAny
import Derived.Lib.AppendStr
import Derived.Lib.AppendZerosOnto
import Derived.Lib.Atoi
import Derived.Lib.AtoiErrMem
import Derived.Lib.BufferRead
import Derived.Lib.BufferWrite
import Derived.Lib.Builder
import Derived.Lib.Hide
import Derived.Lib.ItoaNum
import Derived.Lib.LaidTab
import Derived.Lib.MinMax
import Derived.Lib.OthersKept
import Derived.Lib.Repeat
import Derived.Lib.SliceRun
import Derived.Lib.Slices
import Derived.Lib.Strings
import Derived.Lib.UnsafeStr
import Derived.Maps.AppendAt
import Derived.Maps.OwnSet
import Derived.Maps.RangeWalk
import Derived.Orders
import Derived.ProofKit
import Derived.RowKit
import Derived.Shelf.GgClosure.StringsIndexFunc
import Derived.Shelf.GgClosure.StringsIndexFuncTop
import Derived.Shelf.LaysM
import Derived.Shelf.SlSortCmp.NoneTotal
import Derived.Shelf.Slices.In.SortNone
import Derived.Shelf.Slices.SearchI
import Derived.Shelf.Small.Wraps
import Derived.Shelf.Sort.Plain
import Derived.Shelf.Strconv.Atoi
import Derived.Shelf.Strconv.Itoa3
import Derived.Shelf.Strings.Builder1
import Derived.Shelf.Strings.Prefix
import Derived.Shelf.Strings.Repeat
import Derived.Sort.KeysCollected
import Derived.Sort.OwnSorted
import Derived.StillTailTactics
import Derived.StringKeys
import Derived.Test.YtmhojpipmllphaaGreatDoorProg
import Derived.Test.YtmhojpipmllphaaGreatDoorRows
import Derived.WalkKit
import Derived.WalkLawsBesides
import Derived.WalkSmall
import Derived.WalkSpells
import Derived.Test.YtmhojpipmllphaaGreatDoorQpl1
import Derived.Test.YtmhojpipmllphaaGreatDoorQpl2
import Derived.Test.YtmhojpipmllphaaGreatDoorQpl3
import Derived.Test.YtmhojpipmllphaaGreatDoorQpl4
import Derived.Test.YtmhojpipmllphaaGreatDoorQpl5
import Derived.Test.YtmhojpipmllphaaGreatDoorQpl6
import Derived.Test.YtmhojpipmllphaaGreatDoorQpl7
import Derived.Test.YtmhojpipmllphaaGreatDoorQpl8
import Derived.Test.YtmhojpipmllphaaGreatDoorQpl10
import Derived.Test.YtmhojpipmllphaaGreatDoorQpl11
import Derived.Test.YtmhojpipmllphaaGreatDoorQpl12
import Derived.Test.YtmhojpipmllphaaGreatDoorQpl13
import Derived.Test.YtmhojpipmllphaaGreatDoorQpl14
import Derived.Test.YtmhojpipmllphaaGreatDoorQpl15
import Derived.Test.YtmhojpipmllphaaGreatDoorQpl16
import Derived.Test.YtmhojpipmllphaaGreatDoorQpl17
import Derived.Test.YtmhojpipmllphaaGreatDoorQpl18
import Derived.Test.YtmhojpipmllphaaGreatDoorQpl19
import Derived.Test.YtmhojpipmllphaaGreatDoorQpl20
import Derived.Test.YtmhojpipmllphaaGreatDoorQpl21
import Derived.Test.YtmhojpipmllphaaGreatDoorQpl22
import Derived.Test.YtmhojpipmllphaaGreatDoorQpl23
import Derived.Test.YtmhojpipmllphaaGreatDoorQpl26
import Derived.Test.YtmhojpipmllphaaGreatDoorQpl27
import Derived.Test.YtmhojpipmllphaaGreatDoorQpl28
import Derived.Test.YtmhojpipmllphaaGreatDoorQpl29
import Derived.Test.YtmhojpipmllphaaGreatDoorQpl30
import Derived.Test.YtmhojpipmllphaaGreatDoorQpl31
import Derived.Test.YtmhojpipmllphaaGreatDoorQpl32
import Derived.Test.YtmhojpipmllphaaGreatDoorQpl33
import Derived.Test.YtmhojpipmllphaaGreatDoorQpl34
import Derived.Test.YtmhojpipmllphaaGreatDoorQpl35
import Derived.Test.YtmhojpipmllphaaGreatDoorQpl36
import Derived.Test.YtmhojpipmllphaaGreatDoorQpl37
namespace Go.Proofs.YtmhojpipmllphaaGreatDoor
open Go.RowKit Go.Deep
set_option linter.unusedVariables false
set_option linter.unusedSimpArgs false

/-- An entry's row as the law keeps it. -/
def PlC (w : World) (b : Nat) (p : Option Addr) (l : List PlM) : Prop := ∀ i x, l[i]? = some x → ∃ q, p = some ⟨q, 0, none⟩ ∧ q ≠ b ∧ w.cell? ⟨q, i * 4, none⟩ = some (.int .i64 x.a)
/-- One cell of a block was turned, at most. -/
structure OneC (w w' : World) (b o : Nat) (v : Value) : Prop where
  chg : Chg (fun q => q = b) w w'
  cell : w'.cell? ⟨b, o, none⟩ = some v
  oth : ∀ i, i ≠ o → w'.cell? ⟨b, i, none⟩ = w.cell? ⟨b, i, none⟩
  fr : ∀ i, w'.frozen? ⟨b, i, none⟩ = w.frozen? ⟨b, i, none⟩
  blk : ∀ cur t, w.heap[b]? = some (.cells cur t (0, 0)) → w'.heap[b]? = some (.cells (cur.setIfInBounds o v) t (0, 0))
theorem OneC.drewN {w w' : World} {b o : Nat} {v : Value} (h : OneC w w' b o v) (k : Nat) : OneC w (w'.drewN k) b o v := ⟨h.chg.trans ((Chg.refl _ _).drewN k) (fun _ _ x => x), h.cell, h.oth, h.fr, h.blk⟩
theorem OneC.set {w w' : World} {b o : Nat} {v : Value} (h : OneC w w' b o v) (u : Value) : OneC w (w'.setCell ⟨b, o, none⟩ u) b o u :=
  ⟨h.chg.trans (Chg.setCell (S := fun q => q = b) (p := ⟨b, o, none⟩) (Chg.refl _ _) (fun _ => rfl) _) (fun _ _ x => x), World.cell?_setCell_same' _ _ _ (by rw [h.cell]; rfl), fun i hi => by
    have hne : (⟨b, o, none⟩ : Addr) ≠ ⟨b, i, none⟩ := by intro hx; injection hx with _ h2 _; exact hi h2.symm
    exact (World.cell?_setCell_other _ _ _ _ hne).trans (h.oth i hi), fun i => by
    rw [← h.fr i]
    simp, fun cur t hb => by
    have h1 := h.blk cur t hb
    have h2 := heap_setCell_same w' b o _ t u h1
    rw [h2, Array.setIfInBounds_setIfInBounds]⟩
set_option maxHeartbeats 2000000 in
set_option maxRecDepth 100000 in
theorem modtrim_any (b o base least N cap : Nat) (p : Option Addr) (l : List PlM) (z : Int) (w : World) (hN : N = l.length) (hn : N ≤ 1000000) (hb : base ≤ 1099511627776) (h1 : base ≤ least) (h2 : least ≤ base + N)
    (c2 : w.cell? ⟨b, o + 2, none⟩ = some (.int .i64 (base : Int))) (c3 : w.cell? ⟨b, o + 3, none⟩ = some (.int .i64 (least : Int))) (c4 : w.cell? ⟨b, o + 4, none⟩ = some (.slice p N cap)) (hf : ∀ i, w.frozen? ⟨b, i, none⟩ = false) (hl : PlC w b p l) :
    Calls Tryz.prog 15 #[.pointer (some ⟨b, o, none⟩), .int .i64 z] w fun e w' => e = .returned (.tuple #[]) ∧ OneC w w' b (o + 3) (.int .i64 ((base + seekI l (funTrim z) (least - base) : Nat) : Int)) := by
  have HFIN : Hid (∀ k wr, least ≤ base + k → k ≤ N → (∀ j x, least ≤ base + j → j < k → l[j]? = some x → funTrim z x = false) → (∀ x, l[k]? = some x → funTrim z x = true) → OneC w wr b (o + 3) (.int .i64 ((base + k : Nat) : Int)) → OneC w wr b (o + 3) (.int .i64 ((base + seekI l (funTrim z) (least - base) : Nat) : Int))) := Lib.hid (fun k wr a1 a2 a3 a4 a5 => by
    rw [seekI_eq (i := least - base) (j := k) (by omega) (by omega) (fun q x q1 q2 hx => a3 q x (by omega) q2 hx) a4]
    exact a5)
  obtain ⟨T, hT⟩ : ∃ T : Int, T = ((base + seekI l (funTrim z) (least - base) : Nat) : Int) := ⟨_, rfl⟩
  rw [← hT] at HFIN ⊢
  have H0 : Hid (OneC w w b (o + 3) (.int .i64 ((base + (least - base) : Nat) : Int))) := Lib.hid ⟨Chg.refl _ _, by rw [c3]; congr 3; omega, fun _ _ => rfl, fun _ => rfl, fun cur t hcur => by
    have hv : cur[o + 3]? = some (.int .i64 (least : Int)) := by
      have := c3
      simp only [World.cell?, hcur] at this
      exact this
    rw [hcur, show ((base + (least - base) : Nat) : Int) = (least : Int) by omega]
    congr 2
    apply Array.ext_getElem?
    intro j
    rw [Array.getElem?_setIfInBounds]
    split
    · rename_i hj
      subst hj
      rw [if_pos (Array.getElem?_eq_some_iff.1 hv).1, hv]
    · rfl⟩
  have HC2 := Lib.hid c2
  have HC4 := Lib.hid c4
  have HF := Lib.hid hf
  have HL := Lib.hid hl
  have HN := Lib.hid hN
  clear hT c2 c3 c4 hf hl hN
  go_enter Tryz.func15, Tryz.ntmps15
  go_wp2_with fail
  go_loopw [4] (fun _ wr => ∃ k : Nat, least ≤ base + k ∧ k ≤ N ∧ Hid (∀ j x, least ≤ base + j → j < k → l[j]? = some x → funTrim z x = false) ∧ Hid (OneC w wr b (o + 3) (.int .i64 ((base + k : Nat) : Int)))) (fun _ wr => base + N - (match wr.cell? ⟨b, o + 3, none⟩ with | some v => (intOf v).toNat | none => 0))
  case atStart => exact ⟨least - base, by omega, by omega, Lib.hid (fun j x q1 q2 _ => absurd q1 (by omega)), H0⟩
  case round =>
    obtain ⟨k, hk1, hk2, HJ, HO⟩ := hrel
    have ho := HO.out
    have d3 := ho.cell
    have d2 : wr.cell? ⟨b, o + 2, none⟩ = some (.int .i64 (base : Int)) := (ho.oth (o + 2) (by omega)).trans HC2.out
    have d4 : wr.cell? ⟨b, o + 4, none⟩ = some (.slice p N cap) := (ho.oth (o + 4) (by omega)).trans HC4.out
    have df : wr.frozen? ⟨b, o + 3, none⟩ = false := (ho.fr _).trans (HF.out _)
    obtain ⟨bk, hbk⟩ : ∃ bk, bk = base + k := ⟨_, rfl⟩
    rw [← hbk] at d3 HO
    by_cases hlt : k < N
    · obtain ⟨x, hx⟩ : ∃ x, l[k]? = some x := ⟨_, List.getElem?_eq_getElem (by rw [← HN.out]; exact hlt)⟩
      obtain ⟨q, rfl, hq, e0⟩ := HL.out k x hx
      have e1 : wr.cell? ⟨q, k * 4, none⟩ = some (.int .i64 x.a) := ho.chg.cell e0 hq
      have hsub : (bk : Int) - (base : Int) = (k : Int) := by omega
      obtain ⟨xa, hxa⟩ : ∃ y, y = x.a := ⟨_, rfl⟩
      rw [← hxa] at e1
      have HBK := Lib.hid hbk
      clear e0 ho
      by_cases hz : xa < z
      · have HX := Lib.hid hx
        clear hx
        go_upto_region 0 with fail
        go_quiet (fail)
        clear hbk
        have HOS : Hid (OneC w ((wr.drewN nq).setCell ⟨b, o + 3, none⟩ (.int .i64 ((bk : Int) + 1))) b (o + 3) (.int .i64 ((bk : Int) + 1))) := Lib.hid ((HO.out.drewN nq).set _)
        go_wp2_with fail
        refine ⟨⟨k + 1, by omega, by omega, Lib.hid (fun j y q1 q2 hy => ?_), ?_⟩, ?_⟩
        · by_cases hjk : j = k
          · subst hjk
            rw [HX.out] at hy
            cases hy
            unfold funTrim
            exact decide_eq_false (by omega)
          · exact HJ.out j y q1 (by omega) hy
        · have e : ((bk : Int) + 1) = ((base + (k + 1) : Nat) : Int) := by have := HBK.out; omega
          refine Lib.hid ?_
          rw [← e]
          exact HOS.out
        · have h5 := HOS.out.cell
          rw [h5, d3]
          simp [intOf]
          have := HBK.out
          omega
      · have hfin := HFIN.out k wr hk1 hk2 HJ.out (fun y hy => by
          rw [hx] at hy
          cases hy
          unfold funTrim
          exact decide_eq_true (by omega)) (by rw [← HBK.out]; exact HO.out)
        have HFI := Lib.hid hfin
        clear hx hfin
        go_upto_region 0 with fail
        go_quiet (fail)
        go_wp2_with fail
        go_end0
        exact ⟨rfl, HFI.out.drewN _⟩
    · have hfin := HFIN.out k wr hk1 hk2 HJ.out (fun y hy => by
        have := (List.getElem?_eq_some_iff.1 hy).1
        rw [← HN.out] at this
        omega) (by rw [← hbk]; exact HO.out)
      have HFI := Lib.hid hfin
      clear hfin ho
      go_upto_region 0 with fail
      go_quiet (fail)
      go_wp2_with fail
      go_end0
      exact ⟨rfl, HFI.out.drewN _⟩
end Go.Proofs.YtmhojpipmllphaaGreatDoor

