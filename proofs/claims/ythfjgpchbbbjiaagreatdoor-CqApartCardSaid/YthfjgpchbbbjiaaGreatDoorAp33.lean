/-
  Part 33: what the statement needs of these texts: QSeekW, QApartW.
-/
import Derived.BigQuiet
import Derived.BigRegion
import Derived.Deep.OwnRows
import Derived.Deep.QuietTactic
import Derived.Deep.RegionHeld3
import Derived.DeepKeys4
import Derived.IntWalk
import Derived.Laws.CopyOwn
import Derived.Laws.OwnMore
import Derived.Laws.RangeAny
import Derived.Lib.AppendStr
import Derived.Lib.AppendZerosOnto
import Derived.Lib.Atoi
import Derived.Lib.AtoiErrMem
import Derived.Lib.BufferRead
import Derived.Lib.BufferWrite
import Derived.Lib.Builder
import Derived.Lib.Hide
import Derived.Lib.ItoaNum
import Derived.Lib.LaidTab
import Derived.Lib.MinMax
import Derived.Lib.OthersKept
import Derived.Lib.Repeat
import Derived.Lib.Slices
import Derived.Lib.Strings
import Derived.Lib.UnsafeStr
import Derived.Maps.AppendAt
import Derived.Maps.OwnSet
import Derived.Maps.RangeWalk
import Derived.Orders
import Derived.ProofKit
import Derived.RowKit
import Derived.Shelf.GgClosure.StringsIndexFunc
import Derived.Shelf.GgClosure.StringsIndexFuncTop
import Derived.Shelf.LaysM
import Derived.Shelf.SlSortCmp.NoneTotal
import Derived.Shelf.Slices.In.SortNone
import Derived.Shelf.Slices.SearchI
import Derived.Shelf.Small.Wraps
import Derived.Shelf.Sort.Plain
import Derived.Shelf.Strconv.Atoi
import Derived.Shelf.Strconv.Itoa3
import Derived.Shelf.Strings.Builder1
import Derived.Shelf.Strings.Prefix
import Derived.Shelf.Strings.Repeat
import Derived.Sort.KeysCollected
import Derived.Sort.OwnSorted
import Derived.StillTailTactics
import Derived.StringKeys
import Derived.Test.YthfjgpchbbbjiaaGreatDoorProg
import Derived.Test.YthfjgpchbbbjiaaGreatDoorRows
import Derived.WalkKit
import Derived.WalkLawsBesides
import Derived.WalkSmall
import Derived.WalkSpells
import Derived.Test.YthfjgpchbbbjiaaGreatDoorAp1
import Derived.Test.YthfjgpchbbbjiaaGreatDoorAp2
import Derived.Test.YthfjgpchbbbjiaaGreatDoorAp3
import Derived.Test.YthfjgpchbbbjiaaGreatDoorAp4
import Derived.Test.YthfjgpchbbbjiaaGreatDoorAp5
import Derived.Test.YthfjgpchbbbjiaaGreatDoorAp6
import Derived.Test.YthfjgpchbbbjiaaGreatDoorAp7
import Derived.Test.YthfjgpchbbbjiaaGreatDoorAp8
import Derived.Test.YthfjgpchbbbjiaaGreatDoorAp10
import Derived.Test.YthfjgpchbbbjiaaGreatDoorAp11
import Derived.Test.YthfjgpchbbbjiaaGreatDoorAp12
import Derived.Test.YthfjgpchbbbjiaaGreatDoorAp13
import Derived.Test.YthfjgpchbbbjiaaGreatDoorAp14
import Derived.Test.YthfjgpchbbbjiaaGreatDoorAp15
import Derived.Test.YthfjgpchbbbjiaaGreatDoorAp16
import Derived.Test.YthfjgpchbbbjiaaGreatDoorAp17
import Derived.Test.YthfjgpchbbbjiaaGreatDoorAp18
import Derived.Test.YthfjgpchbbbjiaaGreatDoorAp19
import Derived.Test.YthfjgpchbbbjiaaGreatDoorAp20
import Derived.Test.YthfjgpchbbbjiaaGreatDoorAp21
import Derived.Test.YthfjgpchbbbjiaaGreatDoorAp22
import Derived.Test.YthfjgpchbbbjiaaGreatDoorAp23
import Derived.Test.YthfjgpchbbbjiaaGreatDoorAp25
import Derived.Test.YthfjgpchbbbjiaaGreatDoorAp26
import Derived.Test.YthfjgpchbbbjiaaGreatDoorAp27
import Derived.Test.YthfjgpchbbbjiaaGreatDoorAp28
import Derived.Test.YthfjgpchbbbjiaaGreatDoorAp29
import Derived.Test.YthfjgpchbbbjiaaGreatDoorAp30
import Derived.Test.YthfjgpchbbbjiaaGreatDoorAp31
import Derived.Test.YthfjgpchbbbjiaaGreatDoorAp32
namespace Go.Proofs.YthfjgpchbbbjiaaGreatDoor
open Go.RowKit Go.Deep
set_option linter.unusedVariables false
set_option linter.unusedSimpArgs false

theorem qchg_below {w w' : World} (h : Chg (fun _ => False) w w') : Below w.heap.size w w' := ⟨h.os, h.tape, h.output, h.size, fun i hi => h.block i hi (fun x => x)⟩
theorem fit_small {i d : Int} (h0 : 0 ≤ i) (h1 : i ≤ 1000000) (d0 : 0 ≤ d) (d1 : d ≤ 1000000) : (⟨i, 0, 0, d⟩ : PlM).fit = true := by
  unfold PlM.fit
  rw [fit4_iff]
  intro k hk
  match k, hk with
  | 0, _ => exact ⟨h0, by show i < 256 ^ 6; omega⟩
  | 1, _ => exact ⟨Int.le_refl 0, by show (0 : Int) < 256 ^ 2; decide⟩
  | 2, _ => exact ⟨Int.le_refl 0, by show (0 : Int) < 256 ^ 5; decide⟩
  | 3, _ => exact ⟨d0, by show d < 256 ^ 7; omega⟩
theorem dropK_len {β : Type} (L : List (QK × β)) (k : QK) : (dropK L k).length ≤ L.length := List.length_filter_le _ _
theorem u8_wf {n : Int} (h : (Lit.int .u8 n).wf = true) : 0 ≤ n ∧ n ≤ 255 := by
  have h2 : IntKind.u8.min ≤ n ∧ n ≤ IntKind.u8.max := by simpa [Lit.wf] using h
  rw [show IntKind.u8.min = (0 : Int) from by decide, show IntKind.u8.max = (255 : Int) from by decide] at h2
  exact h2
end Go.Proofs.YthfjgpchbbbjiaaGreatDoor

namespace Go.Proofs.YthfjgpchbbbjiaaGreatDoor
open Go.RowKit Go.Deep
set_option linter.unusedVariables false
set_option linter.unusedSimpArgs false

theorem kAB : kA ≠ kB := fun h => by
  have : aT = bT := congrArg (fun k : QK => k.1.1) h
  exact absurd this (by decide +kernel)
theorem QsI.more {w0 w : World} {qb : Nat} {mv : Option Nat} {g : Gh} {st : St} {n n' : Nat} {L : List (QK × LnM)} (h : QsI w0 w qb mv g st n L) (hn : n ≤ n') : QsI w0 w qb mv g st n' L := by
  refine ⟨{ h.q with calm := h.q.calm.more hn, ln := fun p hp => ?_ }, h.map, h.lo⟩
  have hl := h.q.ln p hp
  refine { hl with el := Nat.le_trans hl.el hn, row := fun r hr => ?_ }
  obtain ⟨m, i0, j, h2⟩ := hl.row r hr
  exact ⟨m, i0, j, { h2 with rc := h2.rc.more hn }⟩
/-- Two queues, one of which began somewhere. -/
def TwoS (w wr : World) (qb b na nb K : Nat) : Prop := ∃ mv g st L, QsI w wr qb mv g st K L ∧ L.length ≤ 1 + K ∧ (lnD L kA).base = 0 ∧ (lnD L kA).least = 0 ∧ (lnD L kA).es.length = na ∧ (lnD L kB).base = b ∧ (lnD L kB).least = b ∧ (lnD L kB).es.length = nb ∧ (∀ (j : Nat) p, (lnD L kB).es[j]? = some p → p.a = 1000 + (j : Int)) ∧ st.size ≤ 20 * K ∧ st.cap = 1048576
theorem TwoS.more {w wr : World} {qb b na nb K K' : Nat} (h : TwoS w wr qb b na nb K) (hK : K ≤ K') : TwoS w wr qb b na nb K' := by
  obtain ⟨mv, g, st, L, hq, o1, o2, o3, o4, o5, o6, o7, o8, o9, o10⟩ := h
  exact ⟨mv, g, st, L, hq.more hK, by omega, o2, o3, o4, o5, o6, o7, o8, by omega, o10⟩
theorem two_addA {w wr : World} {qb b na nb K : Nat} (h : TwoS w wr qb b na nb K) (hK : K ≤ 300) (i : Nat) (hi : i ≤ 1000) :
    Calls Tryz.prog 12 #[.pointer (some ⟨qb, 0, none⟩), .string aT, .int .i64 0, .agg #[.int .i64 (i : Int), .int .i64 0, .int .i64 0, .int .i64 0]] wr fun e w' => e = .returned (.tuple #[.int .i64 (na : Int), .int .i64 0]) ∧ TwoS w w' qb b (na + 1) nb (K + 2) := by
  obtain ⟨mv, g, st, L, hq, o1, o2, o3, o4, o5, o6, o7, o8, o9, o10⟩ := h
  refine (qadd_any hq (by omega) (by omega) kA aT 0 rfl rfl aT_topic (by decide) ⟨i, 0, 0, 0⟩ (fit_small (by omega) (by omega) (by omega) (by omega)) (by omega)).mono ?_
  rintro e w' ⟨x1, mv1, g1, st1, rfl, a1, a2, a3, a4, a5, a6, a7, a8⟩
  refine ⟨by rw [o2, o4, Nat.zero_add], mv1, g1, st1, _, a1, ?_, ?_, ?_, ?_, ?_, ?_, ?_, ?_, by omega, by omega⟩
  · rw [List.length_append]; have := dropK_len L kA; show _ + 1 ≤ _; omega
  · rw [lnD_last, a5, o2]
  · rw [lnD_last, a6, o3]
  · rw [lnD_last, a7, List.length_append, o4]; rfl
  · rw [lnD_other _ _ _ _ (Ne.symm kAB), o5]
  · rw [lnD_other _ _ _ _ (Ne.symm kAB), o6]
  · rw [lnD_other _ _ _ _ (Ne.symm kAB), o7]
  · rw [lnD_other _ _ _ _ (Ne.symm kAB)]; exact o8
theorem two_addB {w wr : World} {qb b na nb K : Nat} (h : TwoS w wr qb b na nb K) (hK : K ≤ 300) (hb : nb ≤ 1000) :
    Calls Tryz.prog 12 #[.pointer (some ⟨qb, 0, none⟩), .string bT, .int .i64 2, .agg #[.int .i64 (1000 + (nb : Int)), .int .i64 0, .int .i64 0, .int .i64 0]] wr fun e w' => e = .returned (.tuple #[.int .i64 ((b + nb : Nat) : Int), .int .i64 0]) ∧ TwoS w w' qb b na (nb + 1) (K + 2) := by
  obtain ⟨mv, g, st, L, hq, o1, o2, o3, o4, o5, o6, o7, o8, o9, o10⟩ := h
  refine (qadd_any hq (by omega) (by omega) kB bT 2 rfl rfl bT_topic (by decide) ⟨1000 + (nb : Int), 0, 0, 0⟩ (fit_small (by omega) (by omega) (by omega) (by omega)) (by omega)).mono ?_
  rintro e w' ⟨x1, mv1, g1, st1, rfl, a1, a2, a3, a4, a5, a6, a7, a8⟩
  refine ⟨by rw [o5, o7], mv1, g1, st1, _, a1, ?_, ?_, ?_, ?_, ?_, ?_, ?_, ?_, by omega, by omega⟩
  · rw [List.length_append]; have := dropK_len L kB; show _ + 1 ≤ _; omega
  · rw [lnD_other _ _ _ _ kAB, o2]
  · rw [lnD_other _ _ _ _ kAB, o3]
  · rw [lnD_other _ _ _ _ kAB, o4]
  · rw [lnD_last, a5, o5]
  · rw [lnD_last, a6, o6]
  · rw [lnD_last, a7, List.length_append, o7]; rfl
  · rw [lnD_last, a7]
    intro j p hp
    by_cases hj : j < nb
    · rw [List.getElem?_append_left (by rw [o7]; exact hj)] at hp
      exact o8 j p hp
    · have hlt := (List.getElem?_eq_some_iff.1 hp).1
      rw [List.length_append, o7] at hlt
      have hje : j = nb := by simp at hlt; omega
      subst hje
      rw [List.getElem?_append_right (by rw [o7]; exact Nat.le_refl _), o7, Nat.sub_self] at hp
      cases hp
      rfl
set_option maxHeartbeats 4000000 in
set_option maxRecDepth 100000 in
theorem walkF_CqApart (x0 x1 b : Int) (w : World) (ht : Tab10 w) (h0 : (Lit.int .u8 x0).wf = true) (h1 : (Lit.int .u8 x1).wf = true) (wb : (Lit.int .i64 b).wf = true) :
    Calls Tryz.prog 5 #[.agg #[.int .u8 x0, .int .u8 x1], .int .i64 b] w fun e w' => e = .returned (.bool true) ∧ Below w.heap.size w w' := by
  obtain ⟨p0, p1⟩ := u8_wf h0
  obtain ⟨p2, p3⟩ := u8_wf h1
  obtain ⟨y0, rfl⟩ : ∃ y : Nat, x0 = (y : Int) := ⟨x0.toNat, by omega⟩
  obtain ⟨y1, rfl⟩ : ∃ y : Nat, x1 = (y : Int) := ⟨x1.toNat, by omega⟩
  have HT := Lib.hid ht
  obtain ⟨W0, hW0⟩ : ∃ W, W = w.alloc (.cells #[.int .u8 (y0 : Int), .int .u8 (y1 : Int)] 59) := ⟨_, rfl⟩
  have hb0 : Below w.heap.size w W0 := hW0 ▸ (Below.refl _ _).alloc (Nat.le_refl _) _
  have ht0 : Tab10 W0 := tab_chg ht (Chg.of_below hb0)
  have k0 : W0.cell? ⟨w.heap.size, 0, none⟩ = some (.int .u8 (y0 : Int)) := by rw [hW0]; simp
  have k1 : W0.cell? ⟨w.heap.size, 1, none⟩ = some (.int .u8 (y1 : Int)) := by rw [hW0]; simp
  have hsz : w.heap.size < W0.heap.size := by rw [hW0, World.size_alloc]; omega
  have HW0 := Lib.hid hW0
  have HB0 := Lib.hid hb0
  have HT0 := Lib.hid ht0
  have HK0 := Lib.hid k0
  have HK1 := Lib.hid k1
  clear k0 k1 hW0 hb0 ht0 ht h0 h1 wb
  go_enter Tryz.func5, Tryz.ntmps5
  go_upto_region 1 with fail
  rw [← HW0.out]
  go_wp2_with fail
  refine (qawake_any W0 HT0.out).mono ?_
  rintro e w1 ⟨rfl, hc1⟩
  have HC1 := Lib.hid hc1
  clear hc1
  have HN := Lib.hid (new_any 1048576 w1)
  go_wp2_with fail
  refine HN.out.mono ?_
  rintro e w2 ⟨rfl, hd2, hb2⟩
  have HQ := Lib.hid (qfirst_new HC1.out HT0.out 1048576 hd2 hb2)
  clear hd2 hb2
  go_wp2_with fail
  refine HQ.out.mono ?_
  rintro e w3 ⟨qb, g, rfl, h3⟩
  have H3 := Lib.hid h3
  have HC3 := Lib.hid h3.q.disk.chg
  have HEND : Hid (∀ W, Chg (fun _ => False) W0 W → Below w.heap.size w W) := Lib.hid (fun W hW => HB0.out.trans ((qchg_below hW).mono HB0.out.size))
  clear h3
  by_cases hneg : b < 0
  · go_wp2_with fail
    go_ret
    exact ⟨rfl, HEND.out _ HC3.out⟩
  by_cases hbig : 1099511627776 < b
  · go_wp2_with fail
    go_ret
    exact ⟨rfl, HEND.out _ HC3.out⟩
  obtain ⟨bn, rfl⟩ : ∃ y : Nat, b = (y : Int) := ⟨b.toNat, by omega⟩
  have HBS : Hid (Calls Tryz.prog 14 #[.pointer (some ⟨qb, 0, none⟩), .string bT, .int .i64 2, .int .i64 (bn : Int)] w3 fun e w' => e = .returned (.int .i64 0) ∧ TwoS W0 w' qb bn 0 0 0) := Lib.hid ((qbase_any H3.out (Nat.zero_le _) kB bT 2 rfl rfl bT_topic (by decide) bn (by omega) rfl).mono (by
    rintro e w' ⟨lb, mv', rfl, q1, q2⟩
    refine ⟨rfl, mv', g, _, _, q1, Nat.le_refl _, ?_, ?_, ?_, ?_, ?_, ?_, ?_, Nat.le_refl _, rfl⟩
    · rw [lnD_other _ _ _ _ kAB]; rfl
    · rw [lnD_other _ _ _ _ kAB]; rfl
    · rw [lnD_other _ _ _ _ kAB]; rfl
    · rw [lnD_last]
    · rw [lnD_last]
    · rw [lnD_last]; rfl
    · rw [lnD_last]; intro j p hp; cases hp))
  clear HQ H3 HN
  go_wp2_with fail
  refine HBS.out.mono ?_
  rintro e w4 ⟨rfl, hS4⟩
  have hc4 : Chg (fun _ => False) W0 w4 := by obtain ⟨mv, g, st, L, hq, _⟩ := hS4; exact hq.q.disk.chg
  have k0 := hc4.cell HK0.out (fun x => x)
  have k1 := hc4.cell HK1.out (fun x => x)
  have HS4 := Lib.hid hS4
  obtain ⟨n, hn⟩ : ∃ n, n = y0 % 60 := ⟨_, rfl⟩
  obtain ⟨m, hm⟩ : ∃ m, m = y1 % 60 := ⟨_, rfl⟩
  have ht0 : (y0 : Int).tmod 60 = (n : Int) := by rw [Int.tmod_eq_emod_of_nonneg (by omega)]; omega
  have ht1 : (y1 : Int).tmod 60 = (m : Int) := by rw [Int.tmod_eq_emod_of_nonneg (by omega)]; omega
  have hn60 : n < 60 := by omega
  have hm60 : m < 60 := by omega
  have hb40 : bn ≤ 1099511627776 := by omega
  clear hS4 hc4 hn hm HBS
  go_upto_region 8 with fail
  go_quiet (fail)
  have HS5 : Hid (TwoS W0 (w4.drewN nq) qb bn 0 0 0) := Lib.hid (by
    obtain ⟨mv, g, st, L, hq, rest⟩ := HS4.out
    exact ⟨mv, g, st, L, hq.new ((Chg.refl _ _).drewN nq), rest⟩)
  obtain ⟨w5, hw5⟩ : ∃ W, W = w4.drewN nq := ⟨_, rfl⟩
  rw [← hw5] at HS5 ⊢
  clear HS4 k0 k1 ht0 ht1 hw5 p0 p1 p2 p3 hneg hbig
  go_wp2_with fail
  go_loopw [9] (fun vi wr => ∃ i : Nat, vi = .int .i64 i ∧ i ≤ max n m ∧ TwoS W0 wr qb bn (min i n) (min i m) (4 * i)) (fun vi _ => 100 - (intOf vi).toNat)
  case atStart => exact ⟨0, rfl, Nat.zero_le _, by rw [Nat.zero_min, Nat.zero_min]; exact HS5.out⟩
  case round =>
    clear HS5
    obtain ⟨i, rfl, hi, hS⟩ := hrel
    by_cases hlt : i < max n m
    · have hmx : (i : Int) < max (n : Int) (m : Int) := by omega
      have HS := Lib.hid hS
      clear hS
      by_cases hin : i < n
      case' pos =>
        have HA := Lib.hid (two_addA HS.out (by omega) i (by omega))
        have hmi : min i n = i := by omega
        rw [hmi] at HA
        go_wp2_with fail
        refine HA.out.mono ?_
        rintro e w6 ⟨rfl, hS6⟩
        have HS6 : Hid (TwoS W0 w6 qb bn (min (i + 1) n) (min i m) (4 * i + 2)) := Lib.hid (by rw [show min (i + 1) n = i + 1 by omega]; exact hS6)
        clear hS6 HA hmi
        go_upto_region 16 with fail
      case' neg =>
        have HS6 : Hid (TwoS W0 wr qb bn (min (i + 1) n) (min i m) (4 * i + 2)) := Lib.hid (by
          rw [show min (i + 1) n = min i n by omega]
          exact HS.out.more (by omega))
        clear HS
        go_upto_region 16 with fail
      all_goals
        by_cases him : i < m
        · have hmi : min i m = i := by omega
          have HBB := Lib.hid (two_addB HS6.out (by omega) (by omega))
          rw [hmi] at HBB
          obtain ⟨bi, hbi⟩ : ∃ y, y = bn + i := ⟨_, rfl⟩
          rw [← hbi] at HBB
          have hbi2 : (bn : Int) + (i : Int) = (bi : Int) := by omega
          clear hbi hmi
          go_wp2_with fail
          refine HBB.out.mono ?_
          rintro e w7 ⟨rfl, hS7⟩
          have HS7 : Hid (TwoS W0 w7 qb bn (min (i + 1) n) (min (i + 1) m) (4 * (i + 1))) := Lib.hid (by rw [show min (i + 1) m = i + 1 by omega]; exact hS7)
          clear hS7 HBB
          go_wp2_with fail
          exact ⟨⟨i + 1, by go_num, by omega, HS7.out⟩, by simp [intOf]; omega⟩
        · have HS7 := Lib.hid (HS6.out.more (show 4 * i + 2 ≤ 4 * (i + 1) by omega))
          rw [show min i m = min (i + 1) m by omega] at HS7
          go_wp2_with fail
          exact ⟨⟨i + 1, by go_num, by omega, HS7.out⟩, by simp [intOf]; omega⟩
    · obtain ⟨wa, hwa⟩ : ∃ W, W = wr := ⟨_, rfl⟩
      subst hwa
      have hmx : ¬ (i : Int) < max (n : Int) (m : Int) := by omega
      rw [show min i n = n by omega, show min i m = m by omega] at hS
      obtain ⟨mv, g, st, L, hq, o1, o2, o3, o4, o5, o6, o7, o8, o9, o10⟩ := hS
      have HCW := Lib.hid hq.q.disk.chg
      have HAT : Hid (∀ W, Chg (fun _ => False) wa W → ∀ j : Nat, j < m → ∃ pb pc pd : Int, Calls Tryz.prog 15 #[.pointer (some ⟨qb, 0, none⟩), .string bT, .int .i64 2, .int .i64 ((bn + j : Nat) : Int)] W fun e w' => e = .returned (.tuple #[.agg #[.int .i64 (1000 + (j : Int)), .int .i64 pb, .int .i64 pc, .int .i64 pd], .int .i64 0]) ∧ Below W.heap.size W w') := Lib.hid (fun W hW j hj => by
        have hp : (lnD L kB).es[j]? = some (lnD L kB).es[j] := List.getElem?_eq_getElem (by rw [o7]; exact hj)
        obtain ⟨p, hpe⟩ : ∃ p, p = (lnD L kB).es[j] := ⟨_, rfl⟩
        rw [← hpe] at hp
        have hpa := o8 j p hp
        have := qat_ok (hq.new hW) (by omega) kB (bn + j) j p (by rw [o5]) hp (by rw [o6]; omega)
        unfold AtTo PlM.val at this
        rw [hpa] at this
        exact ⟨p.b, p.c, p.d, this⟩)
      have HNA : Hid (∀ W, Chg (fun _ => False) wa W → Calls Tryz.prog 21 #[.pointer (some ⟨qb, 0, none⟩), .string aT, .int .i64 0] W fun e w' => e = .returned (.int .i64 (n : Int)) ∧ Below W.heap.size W w') := Lib.hid (fun W hW => by
        have := qnextq_any (hq.new hW) (by omega) kA
        rw [o2, o4, Nat.zero_add] at this
        exact this)
      obtain ⟨bm, hbm⟩ : ∃ y, y = bn + m := ⟨_, rfl⟩
      have HNB : Hid (∀ W, Chg (fun _ => False) wa W → Calls Tryz.prog 21 #[.pointer (some ⟨qb, 0, none⟩), .string bT, .int .i64 2] W fun e w' => e = .returned (.int .i64 (bm : Int)) ∧ Below W.heap.size W w') := Lib.hid (fun W hW => by
        have := qnextq_any (hq.new hW) (by omega) kB
        rw [o5, o7, ← hbm] at this
        exact this)
      have HLB : Hid (∀ W, Chg (fun _ => False) wa W → Calls Tryz.prog 20 #[.pointer (some ⟨qb, 0, none⟩), .string bT, .int .i64 2] W fun e w' => e = .returned (.int .i64 (bn : Int)) ∧ Below W.heap.size W w') := Lib.hid (fun W hW => by
        have := qleast_any (hq.new hW) (by omega) kB
        rw [o6] at this
        exact this)
      have hbm2 : (bn : Int) + (m : Int) = (bm : Int) := by omega
      clear hq o1 o2 o3 o4 o5 o6 o7 o8 o9 o10 hbm hi hlt
      go_wp2_with fail
      go_loopw [14] (fun vj w2 => ∃ j : Nat, vj = .int .i64 j ∧ j ≤ m ∧ Chg (fun _ => False) wa w2) (fun vj _ => m - (intOf vj).toNat)
      case atStart => exact ⟨0, rfl, Nat.zero_le _, Chg.refl _ _⟩
      case round =>
        obtain ⟨j, rfl, hj, hcj⟩ := hrel
        have HCJ := Lib.hid hcj
        by_cases hjm : j < m
        · obtain ⟨pb, pc, pd, hA⟩ := HAT.out _ hcj j hjm
          have HA := Lib.hid hA
          obtain ⟨bj, hbj⟩ : ∃ y, y = bn + j := ⟨_, rfl⟩
          rw [← hbj] at HA
          have hbj2 : (bn : Int) + (j : Int) = (bj : Int) := by omega
          clear hA hbj hcj
          go_wp2_with fail
          refine HA.out.mono ?_
          rintro e w9 ⟨rfl, hb9⟩
          have HC9 : Hid (Chg (fun _ => False) wa w9) := Lib.hid (HCJ.out.trans (Chg.of_below hb9) (fun _ _ x => x))
          clear hb9
          go_wp2_with fail
          exact ⟨⟨j + 1, by go_num, by omega, Chg.alloc _ HC9.out _⟩, by simp [intOf]; omega⟩
        · have hje : j = m := by omega
          subst hje
          clear hcj
          go_wp2_with fail
          refine (HNA.out _ HCJ.out).mono ?_
          rintro e w9 ⟨rfl, hb9⟩
          have HC9 : Hid (Chg (fun _ => False) wa w9) := Lib.hid (HCJ.out.trans (Chg.of_below hb9) (fun _ _ x => x))
          clear hb9
          go_wp2_with fail
          refine (HNB.out _ HC9.out).mono ?_
          rintro e w10 ⟨rfl, hb10⟩
          have HC10 : Hid (Chg (fun _ => False) wa w10) := Lib.hid (HC9.out.trans (Chg.of_below hb10) (fun _ _ x => x))
          clear hb10
          go_wp2_with fail
          refine (HLB.out _ HC10.out).mono ?_
          rintro e w11 ⟨rfl, hb11⟩
          have HC11 : Hid (Chg (fun _ => False) wa w11) := Lib.hid (HC10.out.trans (Chg.of_below hb11) (fun _ _ x => x))
          clear hb11
          go_wp2_with fail
          go_ret
          exact ⟨rfl, HEND.out _ (HCW.out.trans HC11.out (fun _ _ x => x))⟩
end Go.Proofs.YthfjgpchbbbjiaaGreatDoor

