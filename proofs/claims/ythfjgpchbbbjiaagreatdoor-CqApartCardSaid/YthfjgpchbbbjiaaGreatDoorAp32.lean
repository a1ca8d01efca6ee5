/-
  Part 32: what the statement needs of these texts: QAdd, QAwake, QBase.
-/
import Derived.BigQuiet
import Derived.BigRegion
import Derived.Deep.OwnRows
import Derived.Deep.QuietTactic
import Derived.Deep.RegionHeld3
import Derived.DeepKeys4
import Derived.IntWalk
import Derived.Laws.CopyOwn
import Derived.Laws.OwnMore
import Derived.Laws.RangeAny
import Derived.Lib.AppendStr
import Derived.Lib.AppendZerosOnto
import Derived.Lib.Atoi
import Derived.Lib.AtoiErrMem
import Derived.Lib.BufferRead
import Derived.Lib.BufferWrite
import Derived.Lib.Builder
import Derived.Lib.Hide
import Derived.Lib.ItoaNum
import Derived.Lib.LaidTab
import Derived.Lib.OthersKept
import Derived.Lib.Repeat
import Derived.Lib.Slices
import Derived.Lib.Strings
import Derived.Lib.UnsafeStr
import Derived.Maps.AppendAt
import Derived.Maps.OwnSet
import Derived.Maps.RangeWalk
import Derived.Orders
import Derived.ProofKit
import Derived.RowKit
import Derived.Shelf.GgClosure.StringsIndexFunc
import Derived.Shelf.GgClosure.StringsIndexFuncTop
import Derived.Shelf.LaysM
import Derived.Shelf.SlSortCmp.NoneTotal
import Derived.Shelf.Slices.In.SortNone
import Derived.Shelf.Slices.SearchI
import Derived.Shelf.Small.Wraps
import Derived.Shelf.Sort.Plain
import Derived.Shelf.Strconv.Atoi
import Derived.Shelf.Strconv.Itoa3
import Derived.Shelf.Strings.Builder1
import Derived.Shelf.Strings.Prefix
import Derived.Shelf.Strings.Repeat
import Derived.Sort.KeysCollected
import Derived.Sort.OwnSorted
import Derived.StillTailTactics
import Derived.StringKeys
import Derived.Test.YthfjgpchbbbjiaaGreatDoorProg
import Derived.Test.YthfjgpchbbbjiaaGreatDoorRows
import Derived.WalkKit
import Derived.WalkLawsBesides
import Derived.WalkSmall
import Derived.WalkSpells
import Derived.Test.YthfjgpchbbbjiaaGreatDoorAp1
import Derived.Test.YthfjgpchbbbjiaaGreatDoorAp2
import Derived.Test.YthfjgpchbbbjiaaGreatDoorAp3
import Derived.Test.YthfjgpchbbbjiaaGreatDoorAp4
import Derived.Test.YthfjgpchbbbjiaaGreatDoorAp5
import Derived.Test.YthfjgpchbbbjiaaGreatDoorAp6
import Derived.Test.YthfjgpchbbbjiaaGreatDoorAp7
import Derived.Test.YthfjgpchbbbjiaaGreatDoorAp8
import Derived.Test.YthfjgpchbbbjiaaGreatDoorAp10
import Derived.Test.YthfjgpchbbbjiaaGreatDoorAp11
import Derived.Test.YthfjgpchbbbjiaaGreatDoorAp12
import Derived.Test.YthfjgpchbbbjiaaGreatDoorAp13
import Derived.Test.YthfjgpchbbbjiaaGreatDoorAp14
import Derived.Test.YthfjgpchbbbjiaaGreatDoorAp15
import Derived.Test.YthfjgpchbbbjiaaGreatDoorAp16
import Derived.Test.YthfjgpchbbbjiaaGreatDoorAp17
import Derived.Test.YthfjgpchbbbjiaaGreatDoorAp18
import Derived.Test.YthfjgpchbbbjiaaGreatDoorAp19
import Derived.Test.YthfjgpchbbbjiaaGreatDoorAp20
import Derived.Test.YthfjgpchbbbjiaaGreatDoorAp21
import Derived.Test.YthfjgpchbbbjiaaGreatDoorAp22
import Derived.Test.YthfjgpchbbbjiaaGreatDoorAp23
import Derived.Test.YthfjgpchbbbjiaaGreatDoorAp25
import Derived.Test.YthfjgpchbbbjiaaGreatDoorAp26
import Derived.Test.YthfjgpchbbbjiaaGreatDoorAp27
import Derived.Test.YthfjgpchbbbjiaaGreatDoorAp28
import Derived.Test.YthfjgpchbbbjiaaGreatDoorAp29
import Derived.Test.YthfjgpchbbbjiaaGreatDoorAp30
import Derived.Test.YthfjgpchbbbjiaaGreatDoorAp31
namespace Go.Proofs.YthfjgpchbbbjiaaGreatDoor
open Go.RowKit Go.Deep
set_option linter.unusedVariables false
set_option linter.unusedSimpArgs false

set_option maxHeartbeats 4000000 in
set_option maxRecDepth 100000 in
theorem qadd_any {w0 w : World} {qb : Nat} {mv : Option Nat} {g : Gh} {st : St} {n : Nat} {L : List (QK × LnM)} (h : QsI w0 w qb mv g st n L) (hL : L.length ≤ 1000000) (hn : n ≤ 900) (k' : QK) (t : ByteArray) (q : Nat) (hk1 : k'.1.1 = t) (hk2 : k'.1.2 = (q : Int)) (ht : topicB t = true) (hq : q ≤ 2) (p : PlM) (hp : p.fit = true) (hcap : st.size + 20 ≤ st.cap) :
    Calls Tryz.prog 12 #[.pointer (some ⟨qb, 0, none⟩), .string t, .int .i64 (q : Int), p.val] w (QAddTo w0 w qb mv g st n L k' p) := by
  have ht16 := (topic_small ht).2
  have hR := fun W => qrefuses_any qb t (by unfold maxLen; omega) (q : Int) W
  rw [show refQ t (q : Int) = 0 from by unfold refQ; rw [if_pos ht, if_pos (by omega)]] at hR
  have hP := fun W => placePut_any p.a p.b p.c p.d W
  unfold PutPost at hP
  rw [show fit4 [6, 2, 5, 7] [p.a, p.b, p.c, p.d] = true from hp, show put4 [6, 2, 5, 7] [p.a, p.b, p.c, p.d] = p.tx from rfl] at hP
  obtain ⟨s, hs⟩ : ∃ s, s = p.tx := ⟨_, rfl⟩
  rw [← hs] at hP
  have HPS := Lib.hid hs
  have HP := Lib.hid hP
  have HR := Lib.hid hR
  have HFIT := Lib.hid hp
  have HKV : Hid (k'.kv = .agg #[.string t, .int .i64 (q : Int)]) := Lib.hid (by unfold QK.kv; rw [hk1, hk2])
  have HOP : Hid (∀ W, Chg (fun _ => False) w W → Calls Tryz.prog 30 #[.pointer (some ⟨qb, 0, none⟩), .agg #[.string t, .int .i64 (q : Int)]] W (QOpenTo w0 W qb mv g st n L k')) := Lib.hid (fun W hW => qopen_any (h.q.new hW) (h.map.new hW) (by omega) k' t q hk1 hk2 ht hq)
  obtain ⟨hel, hbb⟩ := lnD_el h.q k'
  have HH := Lib.hid h
  obtain ⟨x0, hx0⟩ : ∃ x, x = lnD L k' := ⟨_, rfl⟩
  rw [← hx0] at hel hbb
  have HX0 := Lib.hid hx0
  obtain ⟨res, hres⟩ : ∃ r : Nat, r = x0.base + x0.es.length := ⟨_, rfl⟩
  have HRES := Lib.hid hres
  obtain ⟨pa, pb, pc, pd⟩ := p
  obtain ⟨W0, hW0⟩ : ∃ W, W = w.alloc (.cells #[.int .i64 pa, .int .i64 pb, .int .i64 pc, .int .i64 pd] 32) := ⟨_, rfl⟩
  have hb0 : Below w.heap.size w W0 := hW0 ▸ (Below.refl _ _).alloc (Nat.le_refl _) _
  have k0 : W0.cell? ⟨w.heap.size, 0, none⟩ = some (.int .i64 pa) := hW0 ▸ cells4 w pa pb pc pd _ 0 (by decide)
  have k1 : W0.cell? ⟨w.heap.size, 1, none⟩ = some (.int .i64 pb) := hW0 ▸ cells4 w pa pb pc pd _ 1 (by decide)
  have k2 : W0.cell? ⟨w.heap.size, 2, none⟩ = some (.int .i64 pc) := hW0 ▸ cells4 w pa pb pc pd _ 2 (by decide)
  have k3 : W0.cell? ⟨w.heap.size, 3, none⟩ = some (.int .i64 pd) := hW0 ▸ cells4 w pa pb pc pd _ 3 (by decide)
  have HW0 := Lib.hid hW0
  have HB0 := Lib.hid hb0
  clear hR hP hs hk1 hk2 ht h hx0 hres hW0 hb0 hp
  unfold PlM.val
  dsimp only at HP ⊢
  go_enter Tryz.func12, Tryz.ntmps12
  go_upto_region 1 with fail
  rw [← HW0.out]
  go_wp2_with fail
  refine (HR.out _).mono ?_
  rintro e w1 ⟨rfl, hb1⟩
  have HB1 := Lib.hid (HB0.out.trans (hb1.mono HB0.out.size))
  have k0 := keep4 hb1 k0
  have k1 := keep4 hb1 k1
  have k2 := keep4 hb1 k2
  have k3 := keep4 hb1 k3
  clear hb1
  go_wp2_with fail
  refine (HP.out _).mono ?_
  rintro e w2 ⟨rfl, hb2⟩
  have HB2 := Lib.hid (HB1.out.trans (hb2.mono HB1.out.size))
  clear hb2 k0 k1 k2 k3
  obtain ⟨w3, hw3⟩ : ∃ W, W = w2.alloc (.cells #[.string t, .int .i64 (q : Int)] 78) := ⟨_, rfl⟩
  have hb3 : Below w2.heap.size w2 w3 := hw3 ▸ (Below.refl _ _).alloc (Nat.le_refl _) _
  have i0 : w3.cell? ⟨w2.heap.size, 0, none⟩ = some (.string t) := by rw [hw3]; simp
  have i1 : w3.cell? ⟨w2.heap.size, 1, none⟩ = some (.int .i64 (q : Int)) := by rw [hw3]; simp
  have hs3 : w3.heap.size = w2.heap.size + 1 := by rw [hw3, World.size_alloc]
  have hc3 : Chg (fun _ => False) w w3 := (Chg.of_below HB2.out : Chg (fun _ => False) w w2).trans (Chg.of_below hb3) (fun _ _ x => x)
  have HC3 := Lib.hid hc3
  have HW3 := Lib.hid hw3
  clear hb3 hw3 hc3
  go_upto_region 8 with fail
  rw [← HW3.out]
  go_wp2_with fail
  refine (HOP.out _ HC3.out).mono ?_
  rintro e w4 ⟨x', g', rfl, a1, a2, a3, a4, a5, a6, a7, a8⟩
  obtain ⟨r, hr⟩ := Option.isSome_iff_exists.1 a4
  have hidb : ∀ y, qAll qb mv L g y → y < w2.heap.size := fun y hy => Nat.lt_of_lt_of_le (HH.out.q.lt_all y hy) HB2.out.size
  have hnid : ¬ qAll qb mv (dropK L k' ++ [(k', x')]) g' w2.heap.size := fun hx => by
    rcases a3.new _ hx with y | y
    · have := hidb _ y; omega
    · omega
  have i0 := a3.chg.cell (p := ⟨w2.heap.size, 0, none⟩) i0 (fun hx => Nat.lt_irrefl _ (hidb _ hx))
  have i1 := a3.chg.cell (p := ⟨w2.heap.size, 1, none⟩) i1 (fun hx => Nat.lt_irrefl _ (hidb _ hx))
  have hlm : LnOk w0 w4 g' st n k' x' := a1.ln _ (List.mem_append_right _ (List.mem_singleton.2 rfl))
  have hN := qnext_any hlm (by omega)
  rw [a5, a7, ← HX0.out, ← HRES.out] at hN
  have HN := Lib.hid hN
  have hA := qappend_any (a1.new ((Chg.refl (fun _ => False) w4).drewN 0)) hr hn ⟨pa, pb, pc, pd⟩ HFIT.out hcap
  have HA : Hid (∀ y, Calls Tryz.prog 32 #[.pointer (some ⟨r, 0, none⟩), .string s] (w4.drewN y) fun e w' => e = .returned (.tuple #[.int .i64 ((20 * x'.es.length : Nat) : Int), .int .i64 0]) ∧ QAppTo w0 (w4.drewN y) qb mv g' st n (dropK L k') k' x' ⟨pa, pb, pc, pd⟩ w') := Lib.hid (fun y => by
    rw [HPS.out]
    exact qappend_any (a1.new ((Chg.refl _ _).drewN y)) hr hn ⟨pa, pb, pc, pd⟩ HFIT.out hcap)
  obtain ⟨c0, c1, c2, z⟩ := line_cell hlm.at_
  rw [hr] at c0
  unfold optV at c0
  dsimp only [Option.map_some] at c0
  obtain ⟨e20, he20⟩ : ∃ y : Int, y = ((20 * x'.es.length : Nat) : Int) := ⟨_, rfl⟩
  rw [← he20] at HA
  obtain ⟨lb, hlb⟩ : ∃ y, y = x'.lb := ⟨_, rfl⟩
  rw [← hlb] at HN c0 ⊢
  have HLB := Lib.hid hlb
  have HAA := Lib.hid (And.intro a2 (And.intro a3 (And.intro a5 (And.intro a6 (And.intro a7 a8)))))
  have HNI := Lib.hid hnid
  clear a1 a2 a3 a4 a5 a6 a7 a8 hr hidb hnid hlm hN hA c1 c2 z he20 hlb
  go_wp2_with fail
  refine HN.out.mono ?_
  rintro e w5 ⟨rfl, y5, rfl⟩
  go_wp2_with fail
  refine (HA.out y5).mono ?_
  rintro e w6 ⟨rfl, g6, st6, b1, b2, b3, b4, b5⟩
  have i0 := b2.chg.cell (p := ⟨w2.heap.size, 0, none⟩) i0 HNI.out
  have i1 := b2.chg.cell (p := ⟨w2.heap.size, 1, none⟩) i1 HNI.out
  have hm6 := b5 _ (HAA.out.1.new ((Chg.refl _ _).drewN y5))
  have hK := qkeep_any b1 hm6 (by unfold lbs; rw [List.length_map]; exact hL) k' t q HKV.out lb
  have HK := Lib.hid hK
  have HBB := Lib.hid (And.intro b2 (And.intro b3 b4))
  clear b1 b2 b3 b4 b5 hm6 hK
  go_wp2_with fail
  refine HK.out.mono ?_
  rintro e w7 ⟨rfl, mv', d1, d2, d3⟩
  have HD := Lib.hid (And.intro d1 (And.intro d2 d3))
  clear d1 d2 d3
  go_wp2_with fail
  go_ret2
  obtain ⟨a2, a3, a5, a6, a7, a8⟩ := HAA.out
  obtain ⟨b2, b3, b4⟩ := HBB.out
  obtain ⟨d1, d2, d3⟩ := HD.out
  refine ⟨addE x' ⟨pa, pb, pc, pd⟩, mv', g6, st6, by show Ending.returned (.tuple #[.int .i64 (res : Int), .int .i64 0]) = _; rw [HRES.out, HX0.out], ⟨d1, by rw [lbs_drop]; rw [HLB.out] at d2; exact d2, fun z hz => ?_⟩, ?_, b3, b4, a5, a6, by show x'.es ++ _ = _; rw [a7], a8⟩
  · rcases List.mem_append.1 hz with y | y
    · exact HH.out.lo z (List.mem_filter.1 y).1
    · rw [List.mem_singleton] at y
      subst y
      show x'.lo ≤ x'.least
      rw [a8, a6]
      exact lnD_lo HH.out.lo k'
  · exact ((((QTo.of_new HC3.out).trans a3).trans (QTo.of_new ((Chg.refl _ _).drewN y5))).trans b2).trans d3
end Go.Proofs.YthfjgpchbbbjiaaGreatDoor

namespace Go.Proofs.YthfjgpchbbbjiaaGreatDoor
open Go.RowKit Go.Deep
set_option linter.unusedVariables false
set_option linter.unusedSimpArgs false

theorem qNewS_new (c : Int) : qNewS (newSt c) = newSt c := by
  unfold qNewS
  rw [List.eq_nil_of_length_eq_zero (Nat.le_zero.1 (namesS_length qH (newSt c)))]
  rfl
/-- Queues on a new disk. -/
def QFirst (w0 : World) (c : Int) (e : Ending) (w' : World) : Prop := ∃ qb g', e = .returned (.tuple #[.pointer (some ⟨qb, 0, none⟩), .int .i64 0]) ∧ QsI w0 w' qb none g' (newSt c) 0 []
theorem qfirst_new {w0 w w' : World} (hc : Chg (fun _ => False) w0 w) (ht : Tab10 w0) (c : Int) (hd : DiskAt w' ⟨w.heap.size, none, []⟩ (newSt c)) (hb : Below w.heap.size w w') : Calls Tryz.prog 8 #[.pointer (some ⟨w.heap.size, 0, none⟩)] w' (QFirst w0 c) := by
  have hg : DiskG w0 w' w.heap.size ⟨w.heap.size, none, []⟩ (newSt c) := ⟨hd, rfl, hc.trans (Chg.of_below hb : Chg (fun _ => False) w w') (fun _ _ x => x), fun q hq => by simp [Gh.fp] at hq; rw [hq]; exact hc.size⟩
  refine (qnew_any hg ht ⟨Good.new c, rfl, rfl⟩ (by decide) (fun p hp => by cases hp)).mono ?_
  rintro e w2 ⟨qb, g', rfl, _, h, _⟩
  rw [qNewS_new] at h
  exact ⟨qb, g', rfl, h⟩
def aT : ByteArray := ⟨#[97]⟩
def bT : ByteArray := ⟨#[98]⟩
theorem aT_topic : topicB aT = true := by decide +kernel
theorem bT_topic : topicB bT = true := by decide +kernel
def kA : QK := ⟨(aT, 0), by decide, by decide⟩
def kB : QK := ⟨(bT, 2), by decide, by decide⟩
theorem getK_last {β : Type} (L : List (QK × β)) (k : QK) (x : β) : getK (dropK L k ++ [(k, x)]) k = some x := by
  unfold getK
  rw [List.find?_append]
  have : (dropK L k).find? (fun p => decide (p.1 = k)) = none := List.find?_eq_none.2 fun p hp => by simp [dropK_ne p hp]
  rw [this]
  simp
theorem getK_other {β : Type} (L : List (QK × β)) (k k2 : QK) (x : β) (h : k2 ≠ k) : getK (dropK L k ++ [(k, x)]) k2 = getK L k2 := by
  unfold getK dropK
  rw [List.find?_append, List.find?_filter]
  have e : (fun p : QK × β => !decide (p.1 = k) && decide (p.1 = k2)) = fun p => decide (p.1 = k2) := by
    funext p
    by_cases hp : p.1 = k2
    · simp [hp, h]
    · simp [hp]
  have h2 : ¬ k = k2 := fun hx => h hx.symm
  simp [e, h2]
theorem lnD_last (L : List (QK × LnM)) (k : QK) (x : LnM) : lnD (dropK L k ++ [(k, x)]) k = x := by unfold lnD; rw [getK_last]; rfl
theorem lnD_other (L : List (QK × LnM)) (k k2 : QK) (x : LnM) (h : k2 ≠ k) : lnD (dropK L k ++ [(k, x)]) k2 = lnD L k2 := by unfold lnD; rw [getK_other L k k2 x h]
theorem zeroP_fit : zeroP.fit = true := by decide +kernel
set_option maxHeartbeats 2000000 in
set_option maxRecDepth 100000 in
theorem qawake_any (w : World) (ht : Tab10 w) : Calls Tryz.prog 7 #[] w fun e w' => e = .returned (.bool true) ∧ Chg (fun _ => False) w w' := by
  have HT := Lib.hid ht
  have HN := Lib.hid (new_any 10000 w)
  clear ht
  go_enter Tryz.func7, Tryz.ntmps7
  go_wp2_with fail
  refine HN.out.mono ?_
  rintro e w1 ⟨rfl, hd1, hb1⟩
  have HQ := Lib.hid (qfirst_new (Chg.refl _ w) HT.out 10000 hd1 hb1)
  clear hd1 hb1
  go_wp2_with fail
  refine HQ.out.mono ?_
  rintro e w2 ⟨qb, g, rfl, h2⟩
  have HA := Lib.hid (qadd_any h2 (Nat.zero_le _) (by decide) kA aT 0 rfl rfl aT_topic (by decide) zeroP zeroP_fit (by decide))
  clear h2
  go_wp2_with fail
  refine HA.out.mono ?_
  rintro e w3 ⟨x1, mv1, g1, st1, rfl, a1, a2, a3, a4, a5, a6, a7, a8⟩
  have hB := qadd_any a1 (show 1 ≤ 1000000 by decide) (by decide) kA aT 0 rfl rfl aT_topic (by decide) zeroP zeroP_fit (by rw [a3, a4]; decide)
  have HB : Hid (Calls Tryz.prog 12 #[.pointer (some ⟨qb, 0, none⟩), .string aT, .int .i64 0, zeroP.val] w3 fun e w' => e = .returned (.tuple #[.int .i64 1, .int .i64 0]) ∧ Chg (fun _ => False) w w') := Lib.hid (hB.mono (by
    rintro e w' ⟨x2, mv2, g2, st2, rfl, b1, b2, b3, b4, b5, b6, b7, b8⟩
    rw [lnD_last, a5, a7]
    exact ⟨rfl, b1.q.disk.chg⟩))
  clear a1 a2 a3 a4 a5 a6 a7 a8 hB
  go_wp2_with fail
  refine HB.out.mono ?_
  rintro e w4 ⟨rfl, hc4⟩
  have HC := Lib.hid hc4
  clear hc4
  go_wp2_with fail
  go_ret
  exact ⟨rfl, HC.out⟩
end Go.Proofs.YthfjgpchbbbjiaaGreatDoor

namespace Go.Proofs.YthfjgpchbbbjiaaGreatDoor
open Go.RowKit Go.Deep
set_option linter.unusedVariables false
set_option linter.unusedSimpArgs false

/-- What Base leaves. -/
def QBaseTo (w0 w : World) (qb : Nat) (mv : Option Nat) (g : Gh) (st : St) (n : Nat) (L : List (QK × LnM)) (k : QK) (a : Nat) (e : Ending) (w' : World) : Prop :=
  ∃ lb mv', e = .returned (.int .i64 0) ∧ QsI w0 w' qb mv' g st n (dropK L k ++ [(k, ⟨lb, a, a, [], none, a⟩)]) ∧ QTo w (qAll qb mv L g) w' (qAll qb mv' (dropK L k ++ [(k, ⟨lb, a, a, [], none, a⟩)]) g)
set_option maxHeartbeats 4000000 in
set_option maxRecDepth 100000 in
theorem qbase_any {w0 w : World} {qb : Nat} {mv : Option Nat} {g : Gh} {st : St} {n : Nat} {L : List (QK × LnM)} (h : QsI w0 w qb mv g st n L) (hL : L.length ≤ 1000000) (k' : QK) (t : ByteArray) (q : Nat) (hk1 : k'.1.1 = t) (hk2 : k'.1.2 = (q : Int)) (ht : topicB t = true) (hq : q ≤ 2) (a : Nat) (ha : a ≤ 1099511627776) (hg : getK L k' = none) :
    Calls Tryz.prog 14 #[.pointer (some ⟨qb, 0, none⟩), .string t, .int .i64 (q : Int), .int .i64 (a : Int)] w (QBaseTo w0 w qb mv g st n L k' a) := by
  have ht16 := (topic_small ht).2
  have hR := fun W => qrefuses_any qb t (by unfold maxLen; omega) (q : Int) W
  rw [show refQ t (q : Int) = 0 from by unfold refQ; rw [if_pos ht, if_pos (by omega)]] at hR
  have HR := Lib.hid hR
  have HF : Hid (∀ W, Chg (fun _ => False) w W → Calls Tryz.prog 34 #[.pointer (some ⟨qb, 0, none⟩), .agg #[.string t, .int .i64 (q : Int)]] W fun e w' => e = .returned (.pointer none) ∧ Below W.heap.size W w') := Lib.hid (fun W hW => by
    have h0 := h.new hW
    have := qfind_any h0.q.at_ h0.map k'
    rw [getK_lbs, hg, hk1, hk2] at this
    exact this)
  have hdk : dropK L k' = L := dropK_none hg
  have HKP : Hid (∀ W, Chg (fun _ => False) w W → Calls Tryz.prog 33 #[.pointer (some ⟨qb, 0, none⟩), .agg #[.string t, .int .i64 (q : Int)], .pointer (some ⟨W.heap.size, 0, none⟩)] (W.alloc (.cells #[.pointer none, .int .i64 (a : Int), .int .i64 (a : Int)] 86)) fun e w' => e = .returned (.tuple #[]) ∧ QBaseTo w0 w qb mv g st n L k' a (.returned (.int .i64 0)) w') := Lib.hid (fun W hW => by
    have h0 := h.new hW
    obtain ⟨l1, l2⟩ := h0.q.line (k := k') (Nat.le_trans h.q.disk.chg.size hW.size) hg (by rw [hk1]; exact ht) (by rw [hk2]; omega) a ha
    have hm := h0.map.new (Chg.alloc (fun _ => False) (Chg.refl _ W) (.cells #[.pointer none, .int .i64 (a : Int), .int .i64 (a : Int)] 86))
    refine (qkeep_any l1 hm (by unfold lbs; rw [List.length_map]; exact hL) k' t q (by unfold QK.kv; rw [hk1, hk2]) W.heap.size).mono ?_
    rintro e w' ⟨rfl, mv', d1, d2, d3⟩
    refine ⟨rfl, W.heap.size, mv', rfl, ⟨by rw [hdk]; exact d1, by rw [lbs_drop]; exact d2, fun z hz => ?_⟩, by rw [hdk]; exact ((QTo.of_new hW).trans l2).trans d3⟩
    rw [hdk] at hz
    rcases List.mem_append.1 hz with y | y
    · exact h.lo z y
    · rw [List.mem_singleton] at y
      subst y
      exact Nat.le_refl _)
  clear hR hk1 hk2 ht h hg hdk
  go_enter Tryz.func14, Tryz.ntmps14
  go_wp2_with fail
  refine (HR.out _).mono ?_
  rintro e w1 ⟨rfl, hb1⟩
  obtain ⟨w2, hw2⟩ : ∃ W, W = w1.alloc (.cells #[.string t, .int .i64 (q : Int)] 78) := ⟨_, rfl⟩
  have hb2 : Below w.heap.size w w2 := by rw [hw2]; exact hb1.alloc hb1.size _
  have HB2 := Lib.hid hb2
  have HW2 := Lib.hid hw2
  have i0 : w2.cell? ⟨w1.heap.size, 0, none⟩ = some (.string t) := by rw [hw2]; simp
  have i1 : w2.cell? ⟨w1.heap.size, 1, none⟩ = some (.int .i64 (q : Int)) := by rw [hw2]; simp
  clear hb1 hw2 hb2
  go_upto_region 7 with fail
  rw [← HW2.out]
  go_wp2_with fail
  refine (HF.out w2 (Chg.of_below HB2.out)).mono ?_
  rintro e w3 ⟨rfl, hb3⟩
  have HB3 := Lib.hid (HB2.out.trans (hb3.mono HB2.out.size))
  have i0 := keep4 hb3 i0
  have i1 := keep4 hb3 i1
  clear hb3
  go_wp2_with fail
  refine (HKP.out w3 (Chg.of_below HB3.out)).mono ?_
  rintro e w4 ⟨rfl, hq4⟩
  have HQ4 := Lib.hid hq4
  clear hq4
  go_wp2_with fail
  go_ret
  exact HQ4.out
end Go.Proofs.YthfjgpchbbbjiaaGreatDoor

