/-
  Part 35: what the statement needs of these texts: QFilesP, QFilesW.
-/
import Derived.BigQuiet
import Derived.BigRegion
import Derived.Deep.OwnRows
import Derived.Deep.QuietTactic
import Derived.Deep.RegionHeld3
import Derived.DeepKeys4
import Derived.IntWalk
import Derived.Laws.CopyOwn
import Derived.Laws.OwnMore
import Derived.Laws.RangeAny
import Derived.Lib.AppendStr
import Derived.Lib.AppendZerosOnto
import Derived.Lib.Atoi
import Derived.Lib.AtoiErrMem
import Derived.Lib.BufferRead
import Derived.Lib.BufferWrite
import Derived.Lib.Builder
import Derived.Lib.Hide
import Derived.Lib.ItoaNum
import Derived.Lib.LaidTab
import Derived.Lib.MinMax
import Derived.Lib.OthersKept
import Derived.Lib.Repeat
import Derived.Lib.SliceRun
import Derived.Lib.Slices
import Derived.Lib.Strings
import Derived.Lib.UnsafeStr
import Derived.Maps.AppendAt
import Derived.Maps.OwnSet
import Derived.Maps.RangeWalk
import Derived.Orders
import Derived.ProofKit
import Derived.RowKit
import Derived.Shelf.GgClosure.StringsIndexFunc
import Derived.Shelf.GgClosure.StringsIndexFuncTop
import Derived.Shelf.LaysM
import Derived.Shelf.SlSortCmp.NoneTotal
import Derived.Shelf.Slices.In.SortNone
import Derived.Shelf.Slices.SearchI
import Derived.Shelf.Small.Wraps
import Derived.Shelf.Sort.Plain
import Derived.Shelf.Strconv.Atoi
import Derived.Shelf.Strconv.Itoa3
import Derived.Shelf.Strings.Builder1
import Derived.Shelf.Strings.Prefix
import Derived.Shelf.Strings.Repeat
import Derived.Sort.KeysCollected
import Derived.Sort.OwnSorted
import Derived.StillTailTactics
import Derived.StringKeys
import Derived.Test.YthfjgpchbbbjiaaGreatDoorProg
import Derived.Test.YthfjgpchbbbjiaaGreatDoorRows
import Derived.WalkKit
import Derived.WalkLawsBesides
import Derived.WalkSmall
import Derived.WalkSpells
import Derived.Test.YthfjgpchbbbjiaaGreatDoorFi1
import Derived.Test.YthfjgpchbbbjiaaGreatDoorFi2
import Derived.Test.YthfjgpchbbbjiaaGreatDoorFi3
import Derived.Test.YthfjgpchbbbjiaaGreatDoorFi4
import Derived.Test.YthfjgpchbbbjiaaGreatDoorFi5
import Derived.Test.YthfjgpchbbbjiaaGreatDoorFi6
import Derived.Test.YthfjgpchbbbjiaaGreatDoorFi7
import Derived.Test.YthfjgpchbbbjiaaGreatDoorFi8
import Derived.Test.YthfjgpchbbbjiaaGreatDoorFi9
import Derived.Test.YthfjgpchbbbjiaaGreatDoorFi10
import Derived.Test.YthfjgpchbbbjiaaGreatDoorFi11
import Derived.Test.YthfjgpchbbbjiaaGreatDoorFi12
import Derived.Test.YthfjgpchbbbjiaaGreatDoorFi13
import Derived.Test.YthfjgpchbbbjiaaGreatDoorFi14
import Derived.Test.YthfjgpchbbbjiaaGreatDoorFi15
import Derived.Test.YthfjgpchbbbjiaaGreatDoorFi16
import Derived.Test.YthfjgpchbbbjiaaGreatDoorFi17
import Derived.Test.YthfjgpchbbbjiaaGreatDoorFi18
import Derived.Test.YthfjgpchbbbjiaaGreatDoorFi19
import Derived.Test.YthfjgpchbbbjiaaGreatDoorFi20
import Derived.Test.YthfjgpchbbbjiaaGreatDoorFi21
import Derived.Test.YthfjgpchbbbjiaaGreatDoorFi22
import Derived.Test.YthfjgpchbbbjiaaGreatDoorFi24
import Derived.Test.YthfjgpchbbbjiaaGreatDoorFi25
import Derived.Test.YthfjgpchbbbjiaaGreatDoorFi26
import Derived.Test.YthfjgpchbbbjiaaGreatDoorFi27
import Derived.Test.YthfjgpchbbbjiaaGreatDoorFi28
import Derived.Test.YthfjgpchbbbjiaaGreatDoorFi29
import Derived.Test.YthfjgpchbbbjiaaGreatDoorFi30
import Derived.Test.YthfjgpchbbbjiaaGreatDoorFi31
import Derived.Test.YthfjgpchbbbjiaaGreatDoorFi32
import Derived.Test.YthfjgpchbbbjiaaGreatDoorFi33
import Derived.Test.YthfjgpchbbbjiaaGreatDoorFi34
namespace Go.Proofs.YthfjgpchbbbjiaaGreatDoor
open Go.RowKit Go.Deep
set_option linter.unusedVariables false
set_option linter.unusedSimpArgs false

def abT : ByteArray := ⟨#[97, 45, 98]⟩
theorem abT_topic : topicB abT = true := by decide +kernel
def kAb : QK := ⟨(abT, 1), by decide, by decide⟩
def otherN : ByteArray := ⟨#[111, 116, 104, 101, 114]⟩
def leftN : ByteArray := ⟨#[113, 45, 108, 101, 102, 116]⟩
theorem hdAb : hdQ kAb = ⟨#[113, 45, 97, 45, 98, 46, 49, 45]⟩ := by decide +kernel
theorem other_q : Lib.hasPrefix otherN.data.toList qH.data.toList = false := by decide +kernel
theorem left_q : Lib.hasPrefix leftN.data.toList qH.data.toList = true := by decide +kernel
theorem left_other : leftN ≠ otherN := by decide +kernel
/-- The disk behind the two files. -/
def fSt1 : St := createS (newSt 1048576) otherN
def fSt : St := createS fSt1 leftN
theorem fNone1 : (newSt 1048576).find otherN = none := rfl
theorem fCalm0 : Calm 0 (newSt 1048576) := ⟨Good.new 1048576, rfl, rfl⟩
theorem fCalm1 : Calm 1 fSt1 := fCalm0.create fNone1
theorem fNone2 : fSt1.find leftN = none := by
  unfold fSt1
  rw [find_create left_other]
  rfl
theorem fCalm : Calm 2 fSt := fCalm1.create fNone2
theorem fE1 : createE (newSt 1048576) otherN = 0 := fCalm0.createE fNone1
theorem fE2 : createE fSt1 leftN = 0 := fCalm1.createE fNone2
theorem fSt_eq : fSt = { newSt 1048576 with fs := [(otherN, emptyF), (leftN, emptyF)] } := by
  unfold fSt
  rw [fCalm1.createS fNone2]
  unfold fSt1
  rw [fCalm0.createS fNone1]
  rfl
theorem fSt_find {nm : ByteArray} (h : (fSt.find nm).isSome = true) : nm = otherN ∨ nm = leftN := by
  have h1 := has_find.2 h
  rw [fSt_eq] at h1
  simpa using h1
theorem fSt_other : (fSt.find otherN).isSome = true := has_find.1 (by rw [fSt_eq]; simp)
theorem fSt_size : fSt.size = 0 ∧ fSt.cap = 1048576 := by rw [fSt_eq]; exact ⟨rfl, rfl⟩
theorem fSt_nm : ∀ p ∈ fSt.fs, p.1.size ≤ 1048576 := by
  rw [fSt_eq]
  intro p hp
  rcases List.mem_cons.1 hp with rfl | hp
  · show otherN.size ≤ _; decide
  · rw [List.mem_singleton] at hp
    subst hp
    show leftN.size ≤ _; decide
theorem namesS_pre {head : ByteArray} {st : St} {nm : ByteArray} (h : nm ∈ namesS head st) : nm ∈ st.fs.map (·.1) ∧ Lib.hasPrefix nm.data.toList head.data.toList = true := by
  have := (qnamesS_perm head st).mem_iff.1 h
  exact List.mem_filter.1 this
theorem others_new (st : St) : Others qH st (qNewS st) := fun nm hn => find_deleteAll fun hm => by
  have := (namesS_pre hm).2
  rw [hn] at this
  cases this
/-- Behind New nothing but the other file is left. -/
theorem left_one {w0 w : World} {qb : Nat} {mv : Option Nat} {g : Gh} {st : St} {n : Nat} (h : QsI w0 w qb mv g st n []) (ho : Others qH fSt st) : (namesS ⟨#[]⟩ st).length = 1 := by
  have hp : (namesS ⟨#[]⟩ st).Perm [otherN] := by
    refine (qnamesS_perm _ st).trans ?_
    rw [List.perm_ext_iff_of_nodup (List.filter_sublist.nodup h.q.calm.good.names) (by simp)]
    intro nm
    rw [List.mem_filter, List.mem_singleton]
    constructor
    · rintro ⟨hm, _⟩
      cases hq : Lib.hasPrefix nm.data.toList qH.data.toList with
      | true =>
        obtain ⟨f, hf, rfl⟩ := List.mem_map.1 hm
        obtain ⟨p, hp, _⟩ := h.q.files f hf hq
        cases hp
      | false =>
        have h1 := has_find.1 hm
        rw [ho nm hq] at h1
        rcases fSt_find h1 with h2 | h2
        · exact h2
        · rw [h2, left_q] at hq; cases hq
    · rintro rfl
      refine ⟨has_find.2 (by rw [ho _ other_q]; exact fSt_other), ?_⟩
      unfold Lib.hasPrefix
      simp
  rw [hp.length_eq]
  rfl
theorem dropK_self (x : LnM) : dropK [(kAb, x)] kAb = [] := by unfold dropK; simp
theorem lnD_one (x : LnM) : lnD [(kAb, x)] kAb = x := by unfold lnD getK; simp
/-- So many entries of the one queue. -/
def FilS (w0 wr : World) (qb d n K : Nat) : Prop := ∃ mv g st L, QsI w0 wr qb mv g st K L ∧ g.d = d ∧ Others qH fSt st ∧ st.size ≤ 20 * n ∧ st.cap = 1048576 ∧
  ((n = 0 ∧ L = []) ∨ ∃ x, 0 < n ∧ L = [(kAb, x)] ∧ x.base = 0 ∧ x.least = 0 ∧ x.es.length = n ∧ ∀ (j : Nat) p, x.es[j]? = some p → p.a = (j : Int))
theorem fil_lnD {L : List (QK × LnM)} {n : Nat} (h : (n = 0 ∧ L = []) ∨ ∃ x : LnM, 0 < n ∧ L = [(kAb, x)] ∧ x.base = 0 ∧ x.least = 0 ∧ x.es.length = n ∧ ∀ (j : Nat) p, x.es[j]? = some p → p.a = (j : Int)) :
    dropK L kAb = [] ∧ (lnD L kAb).base = 0 ∧ (lnD L kAb).least = 0 ∧ (lnD L kAb).es.length = n ∧ L.length ≤ 1 ∧ ∀ (j : Nat) p, (lnD L kAb).es[j]? = some p → p.a = (j : Int) := by
  rcases h with ⟨rfl, rfl⟩ | ⟨x, h0, rfl, h1, h2, h3, h4⟩
  · exact ⟨rfl, rfl, rfl, rfl, by decide, fun j p hp => by simp [lnD, getK] at hp⟩
  · rw [dropK_self, lnD_one]
    exact ⟨rfl, h1, h2, h3, Nat.le_refl _, h4⟩
theorem fil_add {w0 wr : World} {qb d n K : Nat} (h : FilS w0 wr qb d n K) (hK : K ≤ 900) (hn : n ≤ 100) :
    Calls Tryz.prog 12 #[.pointer (some ⟨qb, 0, none⟩), .string abT, .int .i64 1, .agg #[.int .i64 (n : Int), .int .i64 0, .int .i64 0, .int .i64 0]] wr fun e w' => e = .returned (.tuple #[.int .i64 (n : Int), .int .i64 0]) ∧ FilS w0 w' qb d (n + 1) (K + 2) := by
  obtain ⟨mv, g, st, L, hq, o1, o2, o3, o4, o5⟩ := h
  obtain ⟨l1, l2, l3, l4, l5, l6⟩ := fil_lnD o5
  refine (qadd_any hq (by omega) (by omega) kAb abT 1 rfl rfl abT_topic (by decide) ⟨n, 0, 0, 0⟩ (fit_small (by omega) (by omega) (by omega) (by omega)) (by omega)).mono ?_
  rintro e w' ⟨x1, mv1, g1, st1, rfl, a1, a2, a3, a4, a5, a6, a7, a8, a9, a10⟩
  rw [l1, List.nil_append] at a1
  refine ⟨by rw [l2, l4, Nat.zero_add], mv1, g1, st1, _, a1, a10.trans o1, o2.trans a9.toQ, by omega, by omega, (.inr ⟨x1, Nat.succ_pos _, rfl, a5.trans l2, a6.trans l3, by rw [a7, List.length_append, l4]; rfl, ?_⟩)⟩
  rw [a7]
  intro j p hp
  by_cases hj : j < n
  · rw [List.getElem?_append_left (by rw [l4]; exact hj)] at hp
    exact l6 j p hp
  · have hlt := (List.getElem?_eq_some_iff.1 hp).1
    rw [List.length_append, l4] at hlt
    have hje : j = n := by simp at hlt; omega
    subst hje
    rw [List.getElem?_append_right (by rw [l4]; exact Nat.le_refl _), l4, Nat.sub_self] at hp
    cases hp
    rfl
/-- Behind the trim. -/
def fCnt (n t : Nat) : Nat := if n = 0 then 0 else (n + 9) / 10 - min (t / 10) ((n + 9) / 10 - 1)
def FilT (w0 wr : World) (qb d n t K : Nat) : Prop := ∃ mv g st L, QsI w0 wr qb mv g st K L ∧ g.d = d ∧ Others qH fSt st ∧ (namesS (hdQ kAb) st).length = fCnt n t ∧
  (lnD L kAb).base = 0 ∧ (lnD L kAb).least = t ∧ (lnD L kAb).es.length = n ∧ ∀ (j : Nat) p, (lnD L kAb).es[j]? = some p → p.a = (j : Int)
theorem fil_trim {w0 wr : World} {qb d n t K : Nat} (h : FilS w0 wr qb d n K) (hK : K ≤ 900) (ht : t ≤ n) :
    Calls Tryz.prog 17 #[.pointer (some ⟨qb, 0, none⟩), .int .i64 (t : Int)] wr fun e w' => e = .returned (.int .i64 0) ∧ FilT w0 w' qb d n t K := by
  obtain ⟨mv, g, st, L, hq, o1, o2, o3, o4, o5⟩ := h
  obtain ⟨l1, l2, l3, l4, l5, l6⟩ := fil_lnD o5
  refine (qtrim_any hq (by omega) (by omega) (t : Int)).mono ?_
  rintro e w' ⟨rfl, g', st', a1, a2, a3, a4, a5, a6, a7⟩
  refine ⟨rfl, mv, g', st', _, a1, a6.trans o1, o2.trans a3, ?_⟩
  rcases o5 with ⟨rfl, rfl⟩ | ⟨x, h0, rfl, h1, h2, h3, h4⟩
  · refine ⟨?_, rfl, ?_, rfl, fun j p hp => by simp [Go.Proofs.YthfjgpchbbbjiaaGreatDoor.lnD, getK] at hp⟩
    · rw [show fCnt 0 t = 0 from rfl, List.length_eq_zero_iff, List.eq_nil_iff_forall_not_mem]
      intro nm hm
      obtain ⟨h1, h2⟩ := namesS_pre hm
      obtain ⟨f, hf, rfl⟩ := List.mem_map.1 h1
      obtain ⟨p, hp, _⟩ := a1.q.files f hf (hd_pre kAb h2)
      cases hp
    · show 0 = t
      omega
  · have e : ([(kAb, x)].map fun p => (p.1, fT (t : Int) p.2)) = [(kAb, fT (t : Int) x)] := rfl
    rw [e, lnD_one]
    have htt : tTo (t : Int) x = t := by
      unfold tTo
      rw [h1, h2, Nat.zero_add]
      refine seekI_eq (Nat.zero_le _) (by omega) (fun q p _ hq hp => ?_) (fun p hp => ?_)
      · have := h4 q p hp
        unfold funTrim
        rw [this]
        exact decide_eq_false (by omega)
      · have := h4 t p hp
        unfold funTrim
        rw [this]
        exact decide_eq_true (by omega)
    refine ⟨?_, h1, htt, h3, h4⟩
    have hc := a7 kAb x rfl
    unfold fCnt
    rw [if_neg (by omega)]
    have hl := hq.q.ln (kAb, x) (List.mem_singleton.2 rfl)
    have hne : x.es ≠ [] := fun hx => by rw [hx] at h3; simp at h3; omega
    have hrow : x.row.isSome = true := by
      cases hr : x.row with
      | some r => rfl
      | none => exact absurd (hl.none hr) hne
    have := hc hrow hne
    rw [htt, h1, h3, Nat.sub_zero] at this
    exact this
end Go.Proofs.YthfjgpchbbbjiaaGreatDoor

namespace Go.Proofs.YthfjgpchbbbjiaaGreatDoor
open Go.RowKit Go.Deep
set_option linter.unusedVariables false
set_option linter.unusedSimpArgs false

theorem gh_diskG {w0 w w' : World} {d : Nat} {g g' : Gh} {st st' : St} (h : DiskG w0 w d g st) (h3 : DiskAt w' g' st') (ht : Gh.To w g g' w') : DiskG w0 w' d g' st' :=
  ⟨h3, ht.d.trans h.d, h.chg.trans ht.chg (fun q hq hx => by have := h.low q hx; omega), fun q hq => by
    rcases ht.fp q hq with a | a
    · exact h.low q a
    · have := h.chg.size; omega⟩
theorem list_len {w0 w : World} {g : Gh} {st : St} {d : Nat} (h : DiskG w0 w d g st) (hc : Calm 100000 st) (head : ByteArray) (c : Nat) (hl : (namesS head st).length = c) :
    Calls Tryz.prog 23 #[.pointer (some ⟨d, 0, none⟩), .string head] w fun e w' => (∃ a cap, e = .returned (.slice a c cap)) ∧ Below w.heap.size w w' := by
  rw [← h.d]
  refine (list_strs g st head w h.disk (by have := hc.good.len; omega)).mono ?_
  rintro e w' ⟨v, rfl, ⟨a, cap, rfl, _⟩, hb⟩
  exact ⟨⟨a, cap, by rw [hl]⟩, hb⟩
theorem fil_first {w0 w : World} {d : Nat} {g : Gh} (hd : DiskG w0 w d g fSt) (ht : Tab10 w0) :
    Calls Tryz.prog 8 #[.pointer (some ⟨d, 0, none⟩)] w fun e w' => ∃ qb, e = .returned (.tuple #[.pointer (some ⟨qb, 0, none⟩), .int .i64 0]) ∧ FilS w0 w' qb d 0 2 := by
  refine (qnew_any hd ht fCalm (by decide) fSt_nm).mono ?_
  rintro e w' ⟨qb, g', rfl, _, h, hto⟩
  refine ⟨qb, rfl, none, g', _, [], h, hto.d.trans hd.d, others_new fSt, ?_, ?_, .inl ⟨rfl, rfl⟩⟩
  · have h1 := deleteAll_size (namesS qH fSt) fSt
    have h2 := fSt_size.1
    show (deleteAll fSt (namesS qH fSt)).size ≤ _
    omega
  · exact ((deleteAll_keeps fSt (namesS qH fSt)).2.2).trans fSt_size.2
set_option maxHeartbeats 4000000 in
set_option maxRecDepth 100000 in
theorem walkF_CqFiles (x0 x1 : Int) (w : World) (ht : Tab10 w) (h0 : (Lit.int .u8 x0).wf = true) (h1 : (Lit.int .u8 x1).wf = true) :
    Calls Tryz.prog 4 #[.int .u8 x0, .int .u8 x1] w fun e w' => e = .returned (.bool true) ∧ Below w.heap.size w w' := by
  obtain ⟨p0, p1⟩ := u8_wf h0
  obtain ⟨p2, p3⟩ := u8_wf h1
  obtain ⟨y0, rfl⟩ : ∃ y : Nat, x0 = (y : Int) := ⟨x0.toNat, by omega⟩
  obtain ⟨y1, rfl⟩ : ∃ y : Nat, x1 = (y : Int) := ⟨x1.toNat, by omega⟩
  have HT := Lib.hid ht
  obtain ⟨n, hn⟩ : ∃ n, n = y0 % 100 := ⟨_, rfl⟩
  have hrem : (y0 : Int).tmod 100 = (n : Int) := by rw [Int.tmod_eq_emod_of_nonneg (by omega)]; omega
  have hn100 : n < 100 := by omega
  clear h0 h1 ht hn
  go_enter Tryz.func4, Tryz.ntmps4
  go_wp2_with fail
  refine (qawake_any w HT.out).mono ?_
  rintro e w1 ⟨rfl, hc1⟩
  have HN := Lib.hid (new_any 1048576 w1)
  have HC1 := Lib.hid hc1
  clear hc1
  go_wp2_with fail
  refine HN.out.mono ?_
  rintro e w2 ⟨rfl, hd2, hb2⟩
  obtain ⟨d, hd⟩ : ∃ d, d = w1.heap.size := ⟨_, rfl⟩
  rw [← hd] at hd2 ⊢
  have hg2 : DiskG w w2 d ⟨d, none, []⟩ (newSt 1048576) := ⟨hd2, rfl, HC1.out.trans (Chg.of_below hb2 : Chg (fun _ => False) w1 w2) (fun _ _ x => x), fun q hq => by simp [Gh.fp] at hq; rw [hq, hd]; exact HC1.out.size⟩
  have HCR : Hid (Calls Tryz.prog 22 #[.pointer (some ⟨d, 0, none⟩), .string otherN] w2 fun e w' => e = .returned (.int .i64 0) ∧ ∃ g, DiskG w w' d g fSt1) := Lib.hid ((create_any ⟨d, none, []⟩ (newSt 1048576) otherN w2 hd2 (by unfold maxLen; decide) fCalm0.good.fuse (by decide)).mono (by
    rintro e w' ⟨rfl, g', h3, h4⟩
    exact ⟨by rw [fE1], g', gh_diskG hg2 h3 h4⟩))
  clear hd2 hb2 hg2 hd HN
  go_wp2_with fail
  refine HCR.out.mono ?_
  rintro e w3 ⟨rfl, g3, hg3⟩
  have HCS : Hid (Calls Tryz.prog 22 #[.pointer (some ⟨d, 0, none⟩), .string leftN] w3 fun e w' => e = .returned (.int .i64 0) ∧ ∃ g, DiskG w w' d g fSt) := Lib.hid (by
    have := create_any g3 fSt1 leftN w3 hg3.disk (by unfold maxLen; decide) fCalm1.good.fuse (by have := fCalm1.good.len; omega)
    rw [hg3.d] at this
    refine this.mono ?_
    rintro e w' ⟨rfl, g', h3, h4⟩
    exact ⟨by rw [fE2], g', gh_diskG hg3 h3 h4⟩)
  clear hg3 HCR
  go_wp2_with fail
  refine HCS.out.mono ?_
  rintro e w4 ⟨rfl, g4, hg4⟩
  have HNW := Lib.hid (fil_first hg4 HT.out)
  clear hg4 HCS
  go_wp2_with fail
  refine HNW.out.mono ?_
  rintro e w5 ⟨qb, rfl, hS5⟩
  have HS5 := Lib.hid hS5
  clear hS5 HNW
  go_wp2_with fail
  go_loopw [9] (fun vi wr => ∃ i : Nat, vi = .int .i64 i ∧ i ≤ n ∧ Hid (FilS w wr qb d i (2 + 2 * i))) (fun vi _ => 100 - (intOf vi).toNat)
  case atStart => exact ⟨0, rfl, Nat.zero_le _, HS5⟩
  case round =>
    clear HS5
    obtain ⟨i, rfl, hi, HS⟩ := hrel
    by_cases hlt : i < n
    · have HA := Lib.hid (fil_add HS.out (by omega) (by omega))
      go_wp2_with fail
      refine HA.out.mono ?_
      rintro e w6 ⟨rfl, hS6⟩
      have HS6 : Hid (FilS w w6 qb d (i + 1) (2 + 2 * (i + 1))) := Lib.hid hS6
      clear hS6 HA
      go_wp2_with fail
      exact ⟨⟨i + 1, by go_num, by omega, HS6⟩, by simp [intOf]; omega⟩
    · have hin : n = i := by omega
      subst hin
      clear hi hlt
      obtain ⟨t, ht⟩ : ∃ t, t = min y1 n := ⟨_, rfl⟩
      have htm : min (y1 : Int) (n : Int) = (t : Int) := by omega
      have htn : t ≤ n := by omega
      have HTR : Hid (Calls Tryz.prog 17 #[.pointer (some ⟨qb, 0, none⟩), .int .i64 (t : Int)] wr fun e w' => e = .returned (.int .i64 0) ∧ FilT w w' qb d n t (2 + 2 * n)) := Lib.hid (fil_trim HS.out (by omega) htn)
      clear ht
      go_wp2_with fail
      refine HTR.out.mono ?_
      rintro e w6 ⟨rfl, hT6⟩
      obtain ⟨mv, g, st, L, hq, o1, o2, o3, o4, o5, o6, o7⟩ := hT6
      have HDG : Hid (∀ W, Chg (fun _ => False) w6 W → DiskG w W d g st) := Lib.hid (fun W hW => by rw [← o1]; exact (hq.new hW).q.disk)
      have HCALM : Hid (Calm (2 + 2 * n) st ∧ ∀ p ∈ st.fs, p.1.size ≤ 1048576) := Lib.hid ⟨hq.q.calm, hq.q.nm⟩
      have HAT : Hid (∀ W, Chg (fun _ => False) w6 W → ∀ j : Nat, t ≤ j → j < n → ∃ pb pc pd : Int, Calls Tryz.prog 15 #[.pointer (some ⟨qb, 0, none⟩), .string abT, .int .i64 1, .int .i64 (j : Int)] W fun e w' => e = .returned (.tuple #[.agg #[.int .i64 (j : Int), .int .i64 pb, .int .i64 pc, .int .i64 pd], .int .i64 0]) ∧ Below W.heap.size W w') := Lib.hid (fun W hW j h1 h2 => by
        have hp : (lnD L kAb).es[j]? = some (lnD L kAb).es[j] := List.getElem?_eq_getElem (by rw [o6]; exact h2)
        obtain ⟨p, hpe⟩ : ∃ p, p = (lnD L kAb).es[j] := ⟨_, rfl⟩
        rw [← hpe] at hp
        have hpa := o7 j p hp
        have := qat_ok (hq.new hW) (by omega) kAb j j p (by rw [o4, Nat.zero_add]) hp (by rw [o5]; exact h1)
        unfold AtTo PlM.val at this
        rw [hpa] at this
        exact ⟨p.b, p.c, p.d, this⟩)
      have HLE : Hid (Calls Tryz.prog 20 #[.pointer (some ⟨qb, 0, none⟩), .string abT, .int .i64 1] w6 fun e w' => e = .returned (.int .i64 (t : Int)) ∧ Below w6.heap.size w6 w') := Lib.hid (by
        have := qleast_any hq (by omega) kAb
        rw [o5] at this
        exact this)
      obtain ⟨fc, hfc⟩ : ∃ fc, fc = fCnt n t := ⟨_, rfl⟩
      have HLI : Hid (∀ W, Chg (fun _ => False) w6 W → Calls Tryz.prog 23 #[.pointer (some ⟨d, 0, none⟩), .string ⟨#[113, 45, 97, 45, 98, 46, 49, 45]⟩] W fun e w' => (∃ a cap, e = .returned (.slice a fc cap)) ∧ Below W.heap.size W w') := Lib.hid (fun W hW => by
        rw [← hdAb]
        exact list_len (HDG.out W hW) (HCALM.out.1.more (by omega)) _ fc (by rw [hfc]; exact o3))
      have HN2 : Hid (∀ W, Chg (fun _ => False) w6 W → Calls Tryz.prog 8 #[.pointer (some ⟨d, 0, none⟩)] W fun e w' => ∃ q2 g2, e = .returned (.tuple #[.pointer (some ⟨q2, 0, none⟩), .int .i64 0]) ∧ QsI w w' q2 none g2 (qNewS st) (2 + 2 * n) [] ∧ g2.d = d) := Lib.hid (fun W hW => by
        refine (qnew_any (HDG.out W hW) HT.out HCALM.out.1 (by omega) HCALM.out.2).mono ?_
        rintro e w' ⟨q2, g2, rfl, _, h, hto⟩
        exact ⟨q2, g2, rfl, h, hto.d.trans o1⟩)
      have HO2 : Hid (Others qH fSt (qNewS st)) := Lib.hid (o2.trans (others_new st))
      have HC6 : Hid (Chg (fun _ => False) w w6) := Lib.hid hq.q.disk.chg
      clear hq o1 o2 o3 o4 o5 o6 o7 HTR HS
      try rw [htm]
      go_wp2_with fail
      refine HLE.out.mono ?_
      rintro e w7 ⟨rfl, hb7⟩
      have HC7 : Hid (Chg (fun _ => False) w6 w7) := Lib.hid (Chg.of_below hb7)
      clear hb7 HLE
      go_wp2_with fail
      go_loopw [13] (fun vj w2 => ∃ j : Nat, vj = .int .i64 j ∧ t ≤ j ∧ j ≤ n ∧ Hid (Chg (fun _ => False) w6 w2)) (fun vj _ => n - (intOf vj).toNat)
      case atStart => exact ⟨t, rfl, Nat.le_refl _, htn, HC7⟩
      case round =>
        clear HC7
        obtain ⟨j, rfl, hj1, hj2, HC⟩ := hrel
        by_cases hlt : j < n
        · obtain ⟨pb, pc, pd, hA⟩ := HAT.out _ HC.out j hj1 hlt
          have HA := Lib.hid hA
          clear hA
          go_wp2_with fail
          refine HA.out.mono ?_
          rintro e w9 ⟨rfl, hb9⟩
          have HC9 : Hid (Chg (fun _ => False) w6 w9) := Lib.hid (HC.out.trans (Chg.of_below hb9) (fun _ _ x => x))
          clear hb9
          go_wp2_with fail
          exact ⟨⟨j + 1, by go_num, by omega, by omega, Lib.hid (Chg.alloc _ HC9.out _)⟩, by simp [intOf]; omega⟩
        · have hje : n = j := by omega
          subst hje
          clear hlt hj2
          obtain ⟨wh, hwh⟩ : ∃ wh, wh = (n + 9) / 10 := ⟨_, rfl⟩
          obtain ⟨tq, htq⟩ : ∃ tq, tq = t / 10 := ⟨_, rfl⟩
          have hq1 : ((n : Int) + 9).tdiv 10 = (wh : Int) := by rw [Int.tdiv_eq_ediv_of_nonneg (by omega)]; omega
          have hq2 : (t : Int).tdiv 10 = (tq : Int) := by rw [Int.tdiv_eq_ediv_of_nonneg (by omega)]; omega
          have hf0 : n = 0 → fc = 0 := fun h => by rw [hfc]; unfold fCnt; rw [if_pos h]
          have hf1 : 0 < n → fc = wh - min tq (wh - 1) := fun h => by rw [hfc]; unfold fCnt; rw [if_neg (by omega), hwh, htq]
          clear hfc
          go_wp2_with fail
          refine (HLI.out _ HC.out).mono ?_
          rintro e w9 ⟨⟨a9, c9, rfl⟩, hb9⟩
          have HC9 : Hid (Chg (fun _ => False) w6 w9) := Lib.hid (HC.out.trans (Chg.of_below hb9) (fun _ _ x => x))
          clear hb9
          by_cases hn0 : n = 0
          case' pos =>
            have hfz := hf0 hn0
            subst hn0
            subst hfz
            clear hf0 hf1
            go_upto_region 27 with fail
          case' neg =>
            have hfz : (wh : Int) - min (tq : Int) ((wh : Int) - 1) = (fc : Int) := by
              have := hf1 (by omega)
              omega
            clear hf0 hf1
            go_upto_region 27 with fail
          all_goals
            clear HLI HAT
            have HAN : Hid (∀ W, Calls Tryz.prog 15 #[.pointer none, .string aT, .int .i64 0, .int .i64 0] W fun e w' => e = .returned (.tuple #[.agg #[.int .i64 0, .int .i64 0, .int .i64 0, .int .i64 0], .int .i64 1]) ∧ Below W.heap.size W w') := Lib.hid (fun W => qat_nil aT 0 0 W)
            go_wp2_with fail
            refine (HN2.out _ HC9.out).mono ?_
            rintro e w11 ⟨q2, g2, rfl, h2, hd2⟩
            have HL2 : Hid (∀ W, Chg (fun _ => False) w11 W → Calls Tryz.prog 23 #[.pointer (some ⟨d, 0, none⟩), .string ⟨#[]⟩] W fun e w' => (∃ a cap, e = .returned (.slice a 1 cap)) ∧ Below W.heap.size W w') := Lib.hid (fun W hW => by
              have hdg := (h2.new hW).q.disk
              rw [hd2] at hdg
              exact list_len hdg (h2.q.calm.more (by omega)) _ 1 (left_one h2 HO2.out))
            have HAL : Hid (∀ W, Chg (fun _ => False) w11 W → Calls Tryz.prog 19 #[.pointer (some ⟨q2, 0, none⟩)] W fun e w' => e = .returned (.slice none 0 0) ∧ Below W.heap.size W w') := Lib.hid (fun W hW => qall_none (h2.new hW))
            have HEND : Hid (∀ W, Chg (fun _ => False) w11 W → Below w.heap.size w W) := Lib.hid (fun W hW => qchg_below (h2.q.disk.chg.trans hW (fun _ _ x => x)))
            have HC11 : Hid (Chg (fun _ => False) w11 w11) := Lib.hid (Chg.refl _ _)
            clear h2 hd2 HN2 HO2 HC9
            go_wp2_with fail
            refine (qnew_nil _).mono ?_
            rintro e w12 ⟨rfl, rfl⟩
            go_wp2_with fail
            refine (qadd_nil _ _ _ _ _ _ _).mono ?_
            rintro e w13 ⟨rfl, hb13⟩
            have HC13 : Hid (Chg (fun _ => False) w11 w13) := Lib.hid (HC11.out.trans (Chg.of_below hb13) (fun _ _ x => x))
            clear hb13
            go_wp2_with fail
            refine (HAN.out _).mono ?_
            rintro e w14 ⟨rfl, hb14⟩
            have HC14 : Hid (Chg (fun _ => False) w11 w14) := Lib.hid (HC13.out.trans (Chg.of_below hb14) (fun _ _ x => x))
            clear hb14
            have HC14b : Hid (∀ o, Chg (fun _ => False) w11 (w14.alloc o)) := Lib.hid (fun o => Chg.alloc _ HC14.out o)
            go_wp2_with fail
            refine (HL2.out _ (HC14b.out _)).mono ?_
            rintro e w15 ⟨⟨a15, c15, rfl⟩, hb15⟩
            have HC15 : Hid (Chg (fun _ => False) w11 w15) := Lib.hid ((HC14b.out _).trans (Chg.of_below hb15) (fun _ _ x => x))
            clear hb15
            go_wp2_with fail
            refine (HAL.out _ HC15.out).mono ?_
            rintro e w16 ⟨rfl, hb16⟩
            have HC16 : Hid (Chg (fun _ => False) w11 w16) := Lib.hid (HC15.out.trans (Chg.of_below hb16) (fun _ _ x => x))
            clear hb16
            go_wp2_with fail
            refine (qbase_nil _ _ _ _).mono ?_
            rintro e w17 ⟨rfl, rfl⟩
            go_wp2_with fail
            refine (qtrim_nil _ _).mono ?_
            rintro e w18 ⟨rfl, hb18⟩
            have HC18 : Hid (Chg (fun _ => False) w11 w18) := Lib.hid (HC16.out.trans (Chg.of_below hb18) (fun _ _ x => x))
            clear hb18
            go_wp2_with fail
            refine (qleast_nil _ _ _).mono ?_
            rintro e w19 ⟨rfl, hb19⟩
            have HC19 : Hid (Chg (fun _ => False) w11 w19) := Lib.hid (HC18.out.trans (Chg.of_below hb19) (fun _ _ x => x))
            clear hb19
            go_wp2_with fail
            refine (qnextq_nil _ _ _).mono ?_
            rintro e w20 ⟨rfl, hb20⟩
            have HC20 : Hid (Chg (fun _ => False) w11 w20) := Lib.hid (HC19.out.trans (Chg.of_below hb20) (fun _ _ x => x))
            clear hb20
            go_wp2_with fail
            refine (qseek_nil _ _ _ _).mono ?_
            rintro e w21 ⟨rfl, hb21⟩
            have HC21 : Hid (Chg (fun _ => False) w11 w21) := Lib.hid (HC20.out.trans (Chg.of_below hb21) (fun _ _ x => x))
            clear hb21
            go_wp2_with fail
            refine (qall_nil _).mono ?_
            rintro e w22 ⟨rfl, hb22⟩
            have HC22 : Hid (Chg (fun _ => False) w11 w22) := Lib.hid (HC21.out.trans (Chg.of_below hb22) (fun _ _ x => x))
            clear hb22
            go_wp2_with fail
            go_ret
            exact ⟨rfl, HEND.out _ HC22.out⟩
end Go.Proofs.YthfjgpchbbbjiaaGreatDoor

