/-
  Part 31: what the statement needs of these texts: QAt, QNew, QAdd, QAwake.
-/
import Derived.BigQuiet
import Derived.BigRegion
import Derived.Deep.OwnRows
import Derived.Deep.QuietTactic
import Derived.Deep.RegionHeld3
import Derived.DeepKeys4
import Derived.IntWalk
import Derived.Laws.CopyOwn
import Derived.Laws.OwnMore
import Derived.Laws.RangeAny
import Derived.Lib.AppendStr
import Derived.Lib.AppendZerosOnto
import Derived.Lib.Atoi
import Derived.Lib.AtoiErrMem
import Derived.Lib.BufferRead
import Derived.Lib.BufferWrite
import Derived.Lib.Builder
import Derived.Lib.Hide
import Derived.Lib.ItoaNum
import Derived.Lib.LaidTab
import Derived.Lib.OthersKept
import Derived.Lib.Repeat
import Derived.Lib.Slices
import Derived.Lib.Strings
import Derived.Lib.UnsafeStr
import Derived.Maps.AppendAt
import Derived.Maps.OwnSet
import Derived.Maps.RangeWalk
import Derived.Orders
import Derived.ProofKit
import Derived.RowKit
import Derived.Shelf.GgClosure.StringsIndexFunc
import Derived.Shelf.GgClosure.StringsIndexFuncTop
import Derived.Shelf.LaysM
import Derived.Shelf.SlSortCmp.NoneTotal
import Derived.Shelf.Slices.In.SortNone
import Derived.Shelf.Slices.SearchI
import Derived.Shelf.Small.Wraps
import Derived.Shelf.Sort.Plain
import Derived.Shelf.Strconv.Atoi
import Derived.Shelf.Strconv.Itoa3
import Derived.Shelf.Strings.Builder1
import Derived.Shelf.Strings.Prefix
import Derived.Shelf.Strings.Repeat
import Derived.Sort.KeysCollected
import Derived.Sort.OwnSorted
import Derived.StillTailTactics
import Derived.StringKeys
import Derived.Test.YthfjgpchbbbjiaaGreatDoorProg
import Derived.Test.YthfjgpchbbbjiaaGreatDoorRows
import Derived.WalkKit
import Derived.WalkLawsBesides
import Derived.WalkSmall
import Derived.WalkSpells
import Derived.Test.YthfjgpchbbbjiaaGreatDoorSk1
import Derived.Test.YthfjgpchbbbjiaaGreatDoorSk2
import Derived.Test.YthfjgpchbbbjiaaGreatDoorSk3
import Derived.Test.YthfjgpchbbbjiaaGreatDoorSk4
import Derived.Test.YthfjgpchbbbjiaaGreatDoorSk5
import Derived.Test.YthfjgpchbbbjiaaGreatDoorSk6
import Derived.Test.YthfjgpchbbbjiaaGreatDoorSk7
import Derived.Test.YthfjgpchbbbjiaaGreatDoorSk8
import Derived.Test.YthfjgpchbbbjiaaGreatDoorSk9
import Derived.Test.YthfjgpchbbbjiaaGreatDoorSk10
import Derived.Test.YthfjgpchbbbjiaaGreatDoorSk11
import Derived.Test.YthfjgpchbbbjiaaGreatDoorSk12
import Derived.Test.YthfjgpchbbbjiaaGreatDoorSk13
import Derived.Test.YthfjgpchbbbjiaaGreatDoorSk14
import Derived.Test.YthfjgpchbbbjiaaGreatDoorSk15
import Derived.Test.YthfjgpchbbbjiaaGreatDoorSk16
import Derived.Test.YthfjgpchbbbjiaaGreatDoorSk17
import Derived.Test.YthfjgpchbbbjiaaGreatDoorSk18
import Derived.Test.YthfjgpchbbbjiaaGreatDoorSk19
import Derived.Test.YthfjgpchbbbjiaaGreatDoorSk20
import Derived.Test.YthfjgpchbbbjiaaGreatDoorSk21
import Derived.Test.YthfjgpchbbbjiaaGreatDoorSk22
import Derived.Test.YthfjgpchbbbjiaaGreatDoorSk24
import Derived.Test.YthfjgpchbbbjiaaGreatDoorSk25
import Derived.Test.YthfjgpchbbbjiaaGreatDoorSk26
import Derived.Test.YthfjgpchbbbjiaaGreatDoorSk27
import Derived.Test.YthfjgpchbbbjiaaGreatDoorSk28
import Derived.Test.YthfjgpchbbbjiaaGreatDoorSk29
import Derived.Test.YthfjgpchbbbjiaaGreatDoorSk30
namespace Go.Proofs.YthfjgpchbbbjiaaGreatDoor
open Go.RowKit Go.Deep
set_option linter.unusedVariables false
set_option linter.unusedSimpArgs false

def zeroP : PlM := ⟨0, 0, 0, 0⟩
/-- What At tells. -/
def AtTo (p : PlM) (r : Int) (w : World) (e : Ending) (w' : World) : Prop := e = .returned (.tuple #[p.val, .int .i64 r]) ∧ Below w.heap.size w w'
set_option maxHeartbeats 2000000 in
set_option maxRecDepth 100000 in
theorem qat_ok {w0 w : World} {qb : Nat} {mv : Option Nat} {g : Gh} {st : St} {n : Nat} {L : List (QK × LnM)} (h : QsI w0 w qb mv g st n L) (hn : n ≤ 100000) (k : QK) (a : Nat) (i : Nat) (p : PlM) (hai : a = (lnD L k).base + i) (hp : (lnD L k).es[i]? = some p) (hl : (lnD L k).least ≤ a) :
    Calls Tryz.prog 15 #[.pointer (some ⟨qb, 0, none⟩), .string k.1.1, .int .i64 k.1.2, .int .i64 a] w (AtTo p 0 w) := by
  obtain ⟨ls, hls⟩ : ∃ y, y = (lnD L k).least := ⟨_, rfl⟩
  obtain ⟨nx, hnx⟩ : ∃ y, y = (lnD L k).base + (lnD L k).es.length := ⟨_, rfl⟩
  have hlt0 := (List.getElem?_eq_some_iff.1 hp).1
  have hanx : a < nx := by omega
  rw [← hls] at hl
  obtain ⟨W0, hW0⟩ : ∃ W, W = w.alloc (.cells #[.int .i64 0, .int .i64 0, .int .i64 0, .int .i64 0] 32) := ⟨_, rfl⟩
  have hb0 : Below w.heap.size w W0 := hW0 ▸ (Below.refl _ _).alloc (Nat.le_refl _) _
  have hr : W0.rowIs w.heap.size 32 4 (fun _ => .int .i64 0) := hW0 ▸ row4 w 32
  have h0 := h.new (Chg.of_below hb0 : Chg (fun _ => False) w W0)
  have hF := qfind_any h0.q.at_ h0.map k
  rw [getK_lbs] at hF
  have HFI : Hid (∀ W, Below W0.heap.size W0 W → Calls Tryz.prog 35 #[optV ((getK L k).map (·.lb))] W fun e w' => e = .returned (.int .i64 (ls : Int)) ∧ W = w') := Lib.hid (fun W hW => by
    cases hg : getK L k with
    | none =>
      have : ls = 0 := by rw [hls]; unfold lnD; rw [hg]; rfl
      rw [this]
      exact qfirst_nil W
    | some x =>
      have : ls = x.least := by rw [hls]; unfold lnD; rw [hg]; rfl
      rw [this]
      exact qfirst_any ((h0.q.ln _ (getK_mem hg)).new (Chg.of_below hW)))
  have HNX : Hid (∀ W, Below W0.heap.size W0 W → Calls Tryz.prog 31 #[optV ((getK L k).map (·.lb))] W fun e w' => e = .returned (.int .i64 (nx : Int)) ∧ ∃ y, w' = W.drewN y) := Lib.hid (fun W hW => by
    cases hg : getK L k with
    | none =>
      have : nx = 0 := by rw [hnx]; unfold lnD; rw [hg]; rfl
      rw [this]
      exact (qnext_nil W).mono fun e w' hh => ⟨hh.1, 0, hh.2.symm⟩
    | some x =>
      have : nx = x.base + x.es.length := by rw [hnx]; unfold lnD; rw [hg]; rfl
      rw [this]
      exact qnext_any ((h0.q.ln _ (getK_mem hg)).new (Chg.of_below hW)) hn)
  have HE : Hid (∀ W, Below W0.heap.size W0 W → Calls Tryz.prog 36 #[optV ((getK L k).map (·.lb)), .int .i64 (a : Int)] W fun e w' => e = .returned (.tuple #[p.val, .int .i64 0]) ∧ Below W.heap.size W w') := Lib.hid (fun W hW => by
    cases hg : getK L k with
    | none =>
      have : (lnD L k).es = [] := by unfold lnD; rw [hg]; rfl
      rw [this] at hp
      cases hp
    | some x =>
      have hx : lnD L k = x := by unfold lnD; rw [hg]; rfl
      rw [hx] at hp hai hls
      rw [hai]
      have := h.lo _ (getK_mem hg)
      exact qentry_any h.q.calm ((h0.q.ln _ (getK_mem hg)).new (Chg.of_below hW)) hn ⟨hp, by have h1 : x.lo ≤ x.least := this; show x.lo ≤ x.base + i; omega⟩)
  obtain ⟨pa, pb, pc, pd⟩ := p
  unfold PlM.val at HE
  dsimp only at HE
  clear hp hlt0 hai
  obtain ⟨⟨t, q⟩, hk1, hk2⟩ := k
  obtain ⟨o, ho⟩ : ∃ o, o = optV ((getK L ⟨(t, q), hk1, hk2⟩).map (·.lb)) := ⟨_, rfl⟩
  dsimp only at hF ⊢
  rw [← ho] at hF HFI HNX HE
  have HF := Lib.hid hF
  have HW0 := Lib.hid hW0
  have HB0 := Lib.hid hb0
  have HR0 := Lib.hid hr
  clear hF h h0 hW0 hb0 hr ho hls hnx
  unfold AtTo PlM.val
  dsimp only
  go_enter Tryz.func15, Tryz.ntmps15
  go_upto_region 1 with fail
  rw [← HW0.out]
  go_wp2_with fail
  refine HF.out.mono ?_
  rintro e w1 ⟨rfl, hb1⟩
  have HB1 := Lib.hid (HB0.out.trans (hb1.mono HB0.out.size))
  have HR1 := Lib.hid (HR0.out.of_block (hb1.block _ HR0.out.lt))
  have HC1 := Lib.hid hb1
  clear hb1
  go_wp2_with fail
  refine (HFI.out w1 HC1.out).mono ?_
  rintro e w2 ⟨rfl, rfl⟩
  go_wp2_with fail
  refine (HNX.out w1 HC1.out).mono ?_
  rintro e w2 ⟨rfl, y, rfl⟩
  have HB2 := Lib.hid (below_drewN HB1.out y)
  have HR2 : Hid ((w1.drewN y).rowIs w.heap.size 32 4 (fun _ => .int .i64 0)) := Lib.hid HR1.out
  have HC2 : Hid (Below W0.heap.size W0 (w1.drewN y)) := Lib.hid (below_drewN HC1.out y)
  go_wp2_with fail
  refine (HE.out _ HC2.out).mono ?_
  rintro e w3 ⟨rfl, hb3⟩
  have HB3 := Lib.hid (HB2.out.trans (hb3.mono HB2.out.size))
  have HR3 := Lib.hid (HR2.out.of_block (hb3.block _ HR2.out.lt))
  clear hb3
  have hr0 := HR3.out.cell (i := 0) (by decide)
  have hr1 := HR3.out.cell (i := 1) (by decide)
  have hr2 := HR3.out.cell (i := 2) (by decide)
  have hr3 := HR3.out.cell (i := 3) (by decide)
  have hf0 := HR3.out.frozen 0
  have hf1 := HR3.out.frozen 1
  have hf2 := HR3.out.frozen 2
  have hf3 := HR3.out.frozen 3
  have hlt := HR3.out.lt
  go_wp2_with fail
  obtain ⟨W4, hW4⟩ : ∃ W, W = (((w3.setCell ⟨w.heap.size, 0, none⟩ (.int .i64 pa)).setCell ⟨w.heap.size, 1, none⟩ (.int .i64 pb)).setCell ⟨w.heap.size, 2, none⟩ (.int .i64 pc)).setCell ⟨w.heap.size, 3, none⟩ (.int .i64 pd) := ⟨_, rfl⟩
  have hB4 := below_set4 HB3.out (Nat.le_refl _) hW4
  obtain ⟨g0, g1, g2, g3⟩ := set4 HR3.out _ _ _ _ hW4
  rw [← hW4]
  refine bodyPost_ret (v := .tuple #[.agg #[.int .i64 pa, .int .i64 pb, .int .i64 pc, .int .i64 pd], .int .i64 0]) ?_ rfl ⟨rfl, hB4⟩
  clear hW4 hB4 hr0 hr1 hr2 hr3 hf0 hf1 hf2 hf3
  simp [results, Tryz.results15, go_sem, g0, g1, g2, g3]
end Go.Proofs.YthfjgpchbbbjiaaGreatDoor

namespace Go.Proofs.YthfjgpchbbbjiaaGreatDoor
open Go.RowKit Go.Deep
set_option linter.unusedVariables false
set_option linter.unusedSimpArgs false

def qH : ByteArray := ⟨#[113, 45]⟩
theorem namesS_of {head : ByteArray} {st : St} {p : ByteArray × FileM} (hp : p ∈ st.fs) (hh : Lib.hasPrefix p.1.data.toList head.data.toList = true) : p.1 ∈ namesS head st := by
  unfold namesS
  refine List.mem_map.2 ⟨p.1.data.toList, ?_, by rw [Array.toArray_toList]⟩
  rw [List.mem_mergeSort]
  exact List.mem_map.2 ⟨p, List.mem_filter.2 ⟨hp, hh⟩, rfl⟩
theorem deleteAll_gone : ∀ (ts : List ByteArray) (st : St) (p : ByteArray × FileM), p ∈ (deleteAll st ts).fs → p.1 ∉ ts
  | [], _, _, _ => fun hx => by cases hx
  | t :: ts, st, p, hp => fun hx => by
    have hp : p ∈ (deleteAll (removeS st t) ts).fs := hp
    rcases List.mem_cons.1 hx with h | h
    · have h1 : p ∈ (removeS st t).fs := deleteAll_sub ts _ p hp
      have h2 : p ∈ dropF st.fs t := h1
      have := (List.mem_filter.1 h2).2
      simp at this
      exact this h
    · exact deleteAll_gone ts _ p hp h
def qNewS (st : St) : St := deleteAll st (namesS qH st)
def QNewTo (w0 w : World) (g : Gh) (st : St) (n : Nat) (e : Ending) (w' : World) : Prop :=
  ∃ qb g', e = .returned (.tuple #[.pointer (some ⟨qb, 0, none⟩), .int .i64 0]) ∧ w.heap.size ≤ qb ∧ QsI w0 w' qb none g' (qNewS st) n [] ∧ Gh.To w g g' w'
theorem qs_empty {w0 w3 : World} {qb : Nat} {g3 : Gh} {st3 : St} {n : Nat} (hs : w0.heap.size ≤ qb) (hlt : qb < w3.heap.size) (hd : DiskG w0 w3 g3.d g3 st3) (ht : Tab10 w0) (hk : Calm n st3) (hnm : ∀ p ∈ st3.fs, p.1.size ≤ 1048576) (hq : w3.heap[qb]? = some (.cells #[.pointer (some ⟨g3.d, 0, none⟩), .map none] 65 (0, 0))) (hout : qb ∉ g3.fp)
    (hno : ∀ f ∈ st3.fs, Lib.hasPrefix f.1.data.toList qHead = false) : QsI w0 w3 qb none g3 st3 n [] := by
  have hm : ∀ q, q ∈ qfoot qb none [] → q = qb := fun q hq => by simpa [qfoot] using hq
  refine ⟨⟨hd, ht, hk, hnm, hq, List.nodup_nil, (fun p hp => by cases hp), by simp [qfoot], fun q hq => ?_, fun q hq => ?_, fun q hq => ?_, fun f hf hx => ?_⟩, rfl, (fun p hp => by cases hp)⟩
  · rw [hm q hq]; exact hs
  · rw [hm q hq]; exact hlt
  · rw [hm q hq]; exact hout
  · rw [hno f hf] at hx; cases hx
set_option maxHeartbeats 2000000 in
set_option maxRecDepth 100000 in
theorem qnew_any {w0 w : World} {d : Nat} {g : Gh} {st : St} {n : Nat} (hd : DiskG w0 w d g st) (ht : Tab10 w0) (hk : Calm n st) (hn : n ≤ 1000) (hnm : ∀ p ∈ st.fs, p.1.size ≤ 1048576) :
    Calls Tryz.prog 8 #[.pointer (some ⟨d, 0, none⟩)] w (QNewTo w0 w g st n) := by
  obtain ⟨W1, hW1⟩ : ∃ W, W = w.alloc (.cells #[.pointer (some ⟨d, 0, none⟩), .map none] 65) := ⟨_, rfl⟩
  have hc1 : Chg (fun _ => False) w W1 := hW1 ▸ Chg.alloc _ (Chg.refl _ _) _
  have hq1 : W1.heap[w.heap.size]? = some (.cells #[.pointer (some ⟨d, 0, none⟩), .map none] 65 (0, 0)) := by rw [hW1]; exact heap_alloc_new w _
  have hd1 := hd.new hc1
  have hout : w.heap.size ∉ g.fp := fun hx => (by have := hd.disk.lt _ hx; omega)
  have hfound : ∀ t ∈ namesS qH st, (st.find t).isSome = true := fun t ht => find_some_mem (namesS_mem ht)
  have hlen : (namesS qH st).length ≤ 1048576 := by have := namesS_length qH st; have := hk.good.len; omega
  have hL := list_strs g st qH W1 hd1.disk (by have := hk.good.len; omega)
  have hDL : ∀ W v, DiskAt W g st → Strs W W1.heap.size v (namesS qH st) → Calls Tryz.prog 24 #[.pointer (some ⟨g.d, 0, none⟩), v] W (OpTo g 0 (qNewS st) W) := fun W v hdW hsv => by
    have := delete_any g st v _ W hdW (strs_up hsv (Nat.zero_le _)) (fun q o len cap hv h0 hx => by
      obtain ⟨a, c, e, h⟩ := hsv
      rw [e] at hv
      cases hv
      rcases h with h | ⟨q', o', hq, hb, _⟩
      · rw [h] at h0; exact absurd h0 (by simp)
      · cases hq
        have h1 := hd.disk.lt _ hx
        have h2 := hc1.size
        omega) (fun t ht => by
      obtain ⟨p, hp, rfl⟩ := namesS_mem ht
      have := hnm p hp
      unfold maxLen
      omega) (by omega) hk.good.fuse hk.good.sizeOk (by have := hk.good.size; have := hk.good.cap; omega)
    rwa [hk.deleteE hfound, hk.deleteS hfound] at this
  have hsz1 : w.heap.size < W1.heap.size := by rw [hW1, World.size_alloc]; omega
  have hfin : ∀ w3 g3, DiskAt w3 g3 (qNewS st) → Gh.To W1 g g3 w3 → QsI w0 w3 w.heap.size none g3 (qNewS st) n [] ∧ Gh.To w g g3 w3 := fun w3 g3 h3 hto => by
    refine ⟨qs_empty hd.chg.size (Nat.lt_of_lt_of_le hsz1 hto.chg.size) ⟨h3, rfl, hd1.chg.trans hto.chg (fun q hq hx => by have := hd.low q hx; omega), fun q hq => ?_⟩ ht (hk.delete _) (fun p hp => hnm p (deleteAll_sub _ _ p hp)) ?_ (fun hx => ?_) (fun f hf => ?_), (Gh.To.new g hc1).trans hto⟩
    · rcases hto.fp q hq with a | a
      · exact hd.low q a
      · have := hd1.chg.size; omega
    · rw [hto.d, hd.d]
      exact hto.chg.heap hq1 hout
    · rcases hto.fp _ hx with a | a
      · exact hout a
      · omega
    · cases hc : Lib.hasPrefix f.1.data.toList qHead with
      | false => rfl
      | true => exact absurd (namesS_of (deleteAll_sub _ _ f hf) hc) (deleteAll_gone _ _ f hf)
  have hnil : namesS qH st = [] → qNewS st = st := fun h => by unfold qNewS; rw [h]; rfl
  obtain ⟨q0, q1, qz⟩ := qs_cell hq1
  obtain ⟨rs, hrs⟩ : ∃ rs, rs = namesS qH st := ⟨_, rfl⟩
  rw [← hrs] at hL hDL hlen hnil
  obtain ⟨n', hn'⟩ : ∃ n', n' = rs.length := ⟨_, rfl⟩
  have hgd := hd.d
  rw [hgd] at hL hDL
  have HN := Lib.hid hn'
  rw [← hn'] at hlen
  have HD1 := Lib.hid hd1
  have HL := Lib.hid hL
  have HDL := Lib.hid hDL
  have HFIN := Lib.hid hfin
  have HNIL := Lib.hid hnil
  have HW1 := Lib.hid hW1
  clear hL hDL hfin hnil hn' hrs hd1 hd hq1 hc1 hW1 hk hnm ht hfound hout qz hgd hn
  go_enter Tryz.func8, Tryz.ntmps8
  go_upto_region 4 with fail
  rw [← HW1.out]
  go_wp2_with fail
  refine HL.out.mono ?_
  rintro e w2 ⟨v, rfl, hs2, hb2⟩
  obtain ⟨ra, rc, hrv⟩ := hs2.form
  rw [← HN.out] at hrv
  subst hrv
  have q0 := keep4 hb2 q0
  have HS2 := Lib.hid hs2
  have HB2 := Lib.hid hb2
  clear hs2 hb2 q1
  by_cases hr0 : n' = 0
  · subst hr0
    go_wp2_with fail
    go_ret2
    have e := HNIL.out (List.length_eq_zero_iff.1 HN.out.symm)
    obtain ⟨r1, r2⟩ := HFIN.out w2 g (by rw [e]; exact (HD1.out.new (Chg.of_below HB2.out)).disk) (Gh.To.new g (Chg.of_below HB2.out))
    exact ⟨_, g, rfl, Nat.le_refl _, r1, r2⟩
  · have hpos : 0 < n' := by omega
    go_wp2_with fail
    refine (HDL.out w2 _ (HD1.out.new (Chg.of_below HB2.out)).disk HS2.out).mono ?_
    rintro e w3 ⟨rfl, g3, hd3, ht3⟩
    have hR := HFIN.out w3 g3 hd3 ((Gh.To.new g (Chg.of_below HB2.out)).trans ht3)
    have HR := Lib.hid hR
    clear hd3 ht3 hR
    go_wp2_with fail
    go_ret2
    exact ⟨_, g3, rfl, Nat.le_refl _, HR.out.1, HR.out.2⟩
end Go.Proofs.YthfjgpchbbbjiaaGreatDoor

namespace Go.Proofs.YthfjgpchbbbjiaaGreatDoor
open Go.RowKit Go.Deep
set_option linter.unusedVariables false
set_option linter.unusedSimpArgs false

set_option maxHeartbeats 4000000 in
set_option maxRecDepth 100000 in
theorem qadd_any {w0 w : World} {qb : Nat} {mv : Option Nat} {g : Gh} {st : St} {n : Nat} {L : List (QK × LnM)} (h : QsI w0 w qb mv g st n L) (hL : L.length ≤ 1000000) (hn : n ≤ 900) (k' : QK) (t : ByteArray) (q : Nat) (hk1 : k'.1.1 = t) (hk2 : k'.1.2 = (q : Int)) (ht : topicB t = true) (hq : q ≤ 2) (p : PlM) (hp : p.fit = true) (hcap : st.size + 20 ≤ st.cap) :
    Calls Tryz.prog 12 #[.pointer (some ⟨qb, 0, none⟩), .string t, .int .i64 (q : Int), p.val] w (QAddTo w0 w qb mv g st n L k' p) := by
  have ht16 := (topic_small ht).2
  have hR := fun W => qrefuses_any qb t (by unfold maxLen; omega) (q : Int) W
  rw [show refQ t (q : Int) = 0 from by unfold refQ; rw [if_pos ht, if_pos (by omega)]] at hR
  have hP := fun W => placePut_any p.a p.b p.c p.d W
  unfold PutPost at hP
  rw [show fit4 [6, 2, 5, 7] [p.a, p.b, p.c, p.d] = true from hp, show put4 [6, 2, 5, 7] [p.a, p.b, p.c, p.d] = p.tx from rfl] at hP
  obtain ⟨s, hs⟩ : ∃ s, s = p.tx := ⟨_, rfl⟩
  rw [← hs] at hP
  have HPS := Lib.hid hs
  have HP := Lib.hid hP
  have HR := Lib.hid hR
  have HFIT := Lib.hid hp
  have HKV : Hid (k'.kv = .agg #[.string t, .int .i64 (q : Int)]) := Lib.hid (by unfold QK.kv; rw [hk1, hk2])
  have HOP : Hid (∀ W, Chg (fun _ => False) w W → Calls Tryz.prog 30 #[.pointer (some ⟨qb, 0, none⟩), .agg #[.string t, .int .i64 (q : Int)]] W (QOpenTo w0 W qb mv g st n L k')) := Lib.hid (fun W hW => qopen_any (h.q.new hW) (h.map.new hW) (by omega) k' t q hk1 hk2 ht hq)
  obtain ⟨hel, hbb⟩ := lnD_el h.q k'
  have HH := Lib.hid h
  obtain ⟨x0, hx0⟩ : ∃ x, x = lnD L k' := ⟨_, rfl⟩
  rw [← hx0] at hel hbb
  have HX0 := Lib.hid hx0
  obtain ⟨res, hres⟩ : ∃ r : Nat, r = x0.base + x0.es.length := ⟨_, rfl⟩
  have HRES := Lib.hid hres
  obtain ⟨pa, pb, pc, pd⟩ := p
  obtain ⟨W0, hW0⟩ : ∃ W, W = w.alloc (.cells #[.int .i64 pa, .int .i64 pb, .int .i64 pc, .int .i64 pd] 32) := ⟨_, rfl⟩
  have hb0 : Below w.heap.size w W0 := hW0 ▸ (Below.refl _ _).alloc (Nat.le_refl _) _
  have k0 : W0.cell? ⟨w.heap.size, 0, none⟩ = some (.int .i64 pa) := hW0 ▸ cells4 w pa pb pc pd _ 0 (by decide)
  have k1 : W0.cell? ⟨w.heap.size, 1, none⟩ = some (.int .i64 pb) := hW0 ▸ cells4 w pa pb pc pd _ 1 (by decide)
  have k2 : W0.cell? ⟨w.heap.size, 2, none⟩ = some (.int .i64 pc) := hW0 ▸ cells4 w pa pb pc pd _ 2 (by decide)
  have k3 : W0.cell? ⟨w.heap.size, 3, none⟩ = some (.int .i64 pd) := hW0 ▸ cells4 w pa pb pc pd _ 3 (by decide)
  have HW0 := Lib.hid hW0
  have HB0 := Lib.hid hb0
  clear hR hP hs hk1 hk2 ht h hx0 hres hW0 hb0 hp
  unfold PlM.val
  dsimp only at HP ⊢
  go_enter Tryz.func12, Tryz.ntmps12
  go_upto_region 1 with fail
  rw [← HW0.out]
  go_wp2_with fail
  refine (HR.out _).mono ?_
  rintro e w1 ⟨rfl, hb1⟩
  have HB1 := Lib.hid (HB0.out.trans (hb1.mono HB0.out.size))
  have k0 := keep4 hb1 k0
  have k1 := keep4 hb1 k1
  have k2 := keep4 hb1 k2
  have k3 := keep4 hb1 k3
  clear hb1
  go_wp2_with fail
  refine (HP.out _).mono ?_
  rintro e w2 ⟨rfl, hb2⟩
  have HB2 := Lib.hid (HB1.out.trans (hb2.mono HB1.out.size))
  clear hb2 k0 k1 k2 k3
  obtain ⟨w3, hw3⟩ : ∃ W, W = w2.alloc (.cells #[.string t, .int .i64 (q : Int)] 78) := ⟨_, rfl⟩
  have hb3 : Below w2.heap.size w2 w3 := hw3 ▸ (Below.refl _ _).alloc (Nat.le_refl _) _
  have i0 : w3.cell? ⟨w2.heap.size, 0, none⟩ = some (.string t) := by rw [hw3]; simp
  have i1 : w3.cell? ⟨w2.heap.size, 1, none⟩ = some (.int .i64 (q : Int)) := by rw [hw3]; simp
  have hs3 : w3.heap.size = w2.heap.size + 1 := by rw [hw3, World.size_alloc]
  have hc3 : Chg (fun _ => False) w w3 := (Chg.of_below HB2.out : Chg (fun _ => False) w w2).trans (Chg.of_below hb3) (fun _ _ x => x)
  have HC3 := Lib.hid hc3
  have HW3 := Lib.hid hw3
  clear hb3 hw3 hc3
  go_upto_region 8 with fail
  rw [← HW3.out]
  go_wp2_with fail
  refine (HOP.out _ HC3.out).mono ?_
  rintro e w4 ⟨x', g', rfl, a1, a2, a3, a4, a5, a6, a7, a8⟩
  obtain ⟨r, hr⟩ := Option.isSome_iff_exists.1 a4
  have hidb : ∀ y, qAll qb mv L g y → y < w2.heap.size := fun y hy => Nat.lt_of_lt_of_le (HH.out.q.lt_all y hy) HB2.out.size
  have hnid : ¬ qAll qb mv (dropK L k' ++ [(k', x')]) g' w2.heap.size := fun hx => by
    rcases a3.new _ hx with y | y
    · have := hidb _ y; omega
    · omega
  have i0 := a3.chg.cell (p := ⟨w2.heap.size, 0, none⟩) i0 (fun hx => Nat.lt_irrefl _ (hidb _ hx))
  have i1 := a3.chg.cell (p := ⟨w2.heap.size, 1, none⟩) i1 (fun hx => Nat.lt_irrefl _ (hidb _ hx))
  have hlm : LnOk w0 w4 g' st n k' x' := a1.ln _ (List.mem_append_right _ (List.mem_singleton.2 rfl))
  have hN := qnext_any hlm (by omega)
  rw [a5, a7, ← HX0.out, ← HRES.out] at hN
  have HN := Lib.hid hN
  have hA := qappend_any (a1.new ((Chg.refl (fun _ => False) w4).drewN 0)) hr hn ⟨pa, pb, pc, pd⟩ HFIT.out hcap
  have HA : Hid (∀ y, Calls Tryz.prog 32 #[.pointer (some ⟨r, 0, none⟩), .string s] (w4.drewN y) fun e w' => e = .returned (.tuple #[.int .i64 ((20 * x'.es.length : Nat) : Int), .int .i64 0]) ∧ QAppTo w0 (w4.drewN y) qb mv g' st n (dropK L k') k' x' ⟨pa, pb, pc, pd⟩ w') := Lib.hid (fun y => by
    rw [HPS.out]
    exact qappend_any (a1.new ((Chg.refl _ _).drewN y)) hr hn ⟨pa, pb, pc, pd⟩ HFIT.out hcap)
  obtain ⟨c0, c1, c2, z⟩ := line_cell hlm.at_
  rw [hr] at c0
  unfold optV at c0
  dsimp only [Option.map_some] at c0
  obtain ⟨e20, he20⟩ : ∃ y : Int, y = ((20 * x'.es.length : Nat) : Int) := ⟨_, rfl⟩
  rw [← he20] at HA
  obtain ⟨lb, hlb⟩ : ∃ y, y = x'.lb := ⟨_, rfl⟩
  rw [← hlb] at HN c0 ⊢
  have HLB := Lib.hid hlb
  have HAA := Lib.hid (And.intro a2 (And.intro a3 (And.intro a5 (And.intro a6 (And.intro a7 a8)))))
  have HNI := Lib.hid hnid
  clear a1 a2 a3 a4 a5 a6 a7 a8 hr hidb hnid hlm hN hA c1 c2 z he20 hlb
  go_wp2_with fail
  refine HN.out.mono ?_
  rintro e w5 ⟨rfl, y5, rfl⟩
  go_wp2_with fail
  refine (HA.out y5).mono ?_
  rintro e w6 ⟨rfl, g6, st6, b1, b2, b3, b4, b5⟩
  have i0 := b2.chg.cell (p := ⟨w2.heap.size, 0, none⟩) i0 HNI.out
  have i1 := b2.chg.cell (p := ⟨w2.heap.size, 1, none⟩) i1 HNI.out
  have hm6 := b5 _ (HAA.out.1.new ((Chg.refl _ _).drewN y5))
  have hK := qkeep_any b1 hm6 (by unfold lbs; rw [List.length_map]; exact hL) k' t q HKV.out lb
  have HK := Lib.hid hK
  have HBB := Lib.hid (And.intro b2 (And.intro b3 b4))
  clear b1 b2 b3 b4 b5 hm6 hK
  go_wp2_with fail
  refine HK.out.mono ?_
  rintro e w7 ⟨rfl, mv', d1, d2, d3⟩
  have HD := Lib.hid (And.intro d1 (And.intro d2 d3))
  clear d1 d2 d3
  go_wp2_with fail
  go_ret2
  obtain ⟨a2, a3, a5, a6, a7, a8⟩ := HAA.out
  obtain ⟨b2, b3, b4⟩ := HBB.out
  obtain ⟨d1, d2, d3⟩ := HD.out
  refine ⟨addE x' ⟨pa, pb, pc, pd⟩, mv', g6, st6, by show Ending.returned (.tuple #[.int .i64 (res : Int), .int .i64 0]) = _; rw [HRES.out, HX0.out], ⟨d1, by rw [lbs_drop]; rw [HLB.out] at d2; exact d2, fun z hz => ?_⟩, ?_, b3, b4, a5, a6, by show x'.es ++ _ = _; rw [a7], a8⟩
  · rcases List.mem_append.1 hz with y | y
    · exact HH.out.lo z (List.mem_filter.1 y).1
    · rw [List.mem_singleton] at y
      subst y
      show x'.lo ≤ x'.least
      rw [a8, a6]
      exact lnD_lo HH.out.lo k'
  · exact ((((QTo.of_new HC3.out).trans a3).trans (QTo.of_new ((Chg.refl _ _).drewN y5))).trans b2).trans d3
end Go.Proofs.YthfjgpchbbbjiaaGreatDoor

namespace Go.Proofs.YthfjgpchbbbjiaaGreatDoor
open Go.RowKit Go.Deep
set_option linter.unusedVariables false
set_option linter.unusedSimpArgs false

theorem qNewS_new (c : Int) : qNewS (newSt c) = newSt c := by
  unfold qNewS
  rw [List.eq_nil_of_length_eq_zero (Nat.le_zero.1 (namesS_length qH (newSt c)))]
  rfl
/-- Queues on a new disk. -/
def QFirst (w0 : World) (c : Int) (e : Ending) (w' : World) : Prop := ∃ qb g', e = .returned (.tuple #[.pointer (some ⟨qb, 0, none⟩), .int .i64 0]) ∧ QsI w0 w' qb none g' (newSt c) 0 []
theorem qfirst_new {w0 w w' : World} (hc : Chg (fun _ => False) w0 w) (ht : Tab10 w0) (c : Int) (hd : DiskAt w' ⟨w.heap.size, none, []⟩ (newSt c)) (hb : Below w.heap.size w w') : Calls Tryz.prog 8 #[.pointer (some ⟨w.heap.size, 0, none⟩)] w' (QFirst w0 c) := by
  have hg : DiskG w0 w' w.heap.size ⟨w.heap.size, none, []⟩ (newSt c) := ⟨hd, rfl, hc.trans (Chg.of_below hb : Chg (fun _ => False) w w') (fun _ _ x => x), fun q hq => by simp [Gh.fp] at hq; rw [hq]; exact hc.size⟩
  refine (qnew_any hg ht ⟨Good.new c, rfl, rfl⟩ (by decide) (fun p hp => by cases hp)).mono ?_
  rintro e w2 ⟨qb, g', rfl, _, h, _⟩
  rw [qNewS_new] at h
  exact ⟨qb, g', rfl, h⟩
def aT : ByteArray := ⟨#[97]⟩
theorem aT_topic : topicB aT = true := by decide +kernel
def kA : QK := ⟨(aT, 0), by decide, by decide⟩
theorem getK_last {β : Type} (L : List (QK × β)) (k : QK) (x : β) : getK (dropK L k ++ [(k, x)]) k = some x := by
  unfold getK
  rw [List.find?_append]
  have : (dropK L k).find? (fun p => decide (p.1 = k)) = none := List.find?_eq_none.2 fun p hp => by simp [dropK_ne p hp]
  rw [this]
  simp
theorem lnD_last (L : List (QK × LnM)) (k : QK) (x : LnM) : lnD (dropK L k ++ [(k, x)]) k = x := by unfold lnD; rw [getK_last]; rfl
theorem zeroP_fit : zeroP.fit = true := by decide +kernel
set_option maxHeartbeats 2000000 in
set_option maxRecDepth 100000 in
theorem qawake_any (w : World) (ht : Tab10 w) : Calls Tryz.prog 7 #[] w fun e w' => e = .returned (.bool true) ∧ Chg (fun _ => False) w w' := by
  have HT := Lib.hid ht
  have HN := Lib.hid (new_any 10000 w)
  clear ht
  go_enter Tryz.func7, Tryz.ntmps7
  go_wp2_with fail
  refine HN.out.mono ?_
  rintro e w1 ⟨rfl, hd1, hb1⟩
  have HQ := Lib.hid (qfirst_new (Chg.refl _ w) HT.out 10000 hd1 hb1)
  clear hd1 hb1
  go_wp2_with fail
  refine HQ.out.mono ?_
  rintro e w2 ⟨qb, g, rfl, h2⟩
  have HA := Lib.hid (qadd_any h2 (Nat.zero_le _) (by decide) kA aT 0 rfl rfl aT_topic (by decide) zeroP zeroP_fit (by decide))
  clear h2
  go_wp2_with fail
  refine HA.out.mono ?_
  rintro e w3 ⟨x1, mv1, g1, st1, rfl, a1, a2, a3, a4, a5, a6, a7, a8⟩
  have hB := qadd_any a1 (show 1 ≤ 1000000 by decide) (by decide) kA aT 0 rfl rfl aT_topic (by decide) zeroP zeroP_fit (by rw [a3, a4]; decide)
  have HB : Hid (Calls Tryz.prog 12 #[.pointer (some ⟨qb, 0, none⟩), .string aT, .int .i64 0, zeroP.val] w3 fun e w' => e = .returned (.tuple #[.int .i64 1, .int .i64 0]) ∧ Chg (fun _ => False) w w') := Lib.hid (hB.mono (by
    rintro e w' ⟨x2, mv2, g2, st2, rfl, b1, b2, b3, b4, b5, b6, b7, b8⟩
    rw [lnD_last, a5, a7]
    exact ⟨rfl, b1.q.disk.chg⟩))
  clear a1 a2 a3 a4 a5 a6 a7 a8 hB
  go_wp2_with fail
  refine HB.out.mono ?_
  rintro e w4 ⟨rfl, hc4⟩
  have HC := Lib.hid hc4
  clear hc4
  go_wp2_with fail
  go_ret
  exact ⟨rfl, HC.out⟩
end Go.Proofs.YthfjgpchbbbjiaaGreatDoor

