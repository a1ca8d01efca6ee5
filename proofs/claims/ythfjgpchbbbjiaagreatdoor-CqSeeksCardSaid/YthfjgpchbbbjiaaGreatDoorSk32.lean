/-
  Part 32: what the statement needs of these texts: QSeekW.
-/
import Derived.BigQuiet
import Derived.BigRegion
import Derived.Deep.OwnRows
import Derived.Deep.QuietTactic
import Derived.Deep.RegionHeld3
import Derived.DeepKeys4
import Derived.IntWalk
import Derived.Laws.CopyOwn
import Derived.Laws.OwnMore
import Derived.Laws.RangeAny
import Derived.Lib.AppendStr
import Derived.Lib.AppendZerosOnto
import Derived.Lib.Atoi
import Derived.Lib.AtoiErrMem
import Derived.Lib.BufferRead
import Derived.Lib.BufferWrite
import Derived.Lib.Builder
import Derived.Lib.Hide
import Derived.Lib.ItoaNum
import Derived.Lib.LaidTab
import Derived.Lib.MinMax
import Derived.Lib.OthersKept
import Derived.Lib.Repeat
import Derived.Lib.Slices
import Derived.Lib.Strings
import Derived.Lib.UnsafeStr
import Derived.Maps.AppendAt
import Derived.Maps.OwnSet
import Derived.Maps.RangeWalk
import Derived.Orders
import Derived.ProofKit
import Derived.RowKit
import Derived.Shelf.GgClosure.StringsIndexFunc
import Derived.Shelf.GgClosure.StringsIndexFuncTop
import Derived.Shelf.LaysM
import Derived.Shelf.SlSortCmp.NoneTotal
import Derived.Shelf.Slices.In.SortNone
import Derived.Shelf.Slices.SearchI
import Derived.Shelf.Small.Wraps
import Derived.Shelf.Sort.Plain
import Derived.Shelf.Strconv.Atoi
import Derived.Shelf.Strconv.Itoa3
import Derived.Shelf.Strings.Builder1
import Derived.Shelf.Strings.Prefix
import Derived.Shelf.Strings.Repeat
import Derived.Sort.KeysCollected
import Derived.Sort.OwnSorted
import Derived.StillTailTactics
import Derived.StringKeys
import Derived.Test.YthfjgpchbbbjiaaGreatDoorProg
import Derived.Test.YthfjgpchbbbjiaaGreatDoorRows
import Derived.WalkKit
import Derived.WalkLawsBesides
import Derived.WalkSmall
import Derived.WalkSpells
import Derived.Test.YthfjgpchbbbjiaaGreatDoorSk1
import Derived.Test.YthfjgpchbbbjiaaGreatDoorSk2
import Derived.Test.YthfjgpchbbbjiaaGreatDoorSk3
import Derived.Test.YthfjgpchbbbjiaaGreatDoorSk4
import Derived.Test.YthfjgpchbbbjiaaGreatDoorSk5
import Derived.Test.YthfjgpchbbbjiaaGreatDoorSk6
import Derived.Test.YthfjgpchbbbjiaaGreatDoorSk7
import Derived.Test.YthfjgpchbbbjiaaGreatDoorSk8
import Derived.Test.YthfjgpchbbbjiaaGreatDoorSk9
import Derived.Test.YthfjgpchbbbjiaaGreatDoorSk10
import Derived.Test.YthfjgpchbbbjiaaGreatDoorSk11
import Derived.Test.YthfjgpchbbbjiaaGreatDoorSk12
import Derived.Test.YthfjgpchbbbjiaaGreatDoorSk13
import Derived.Test.YthfjgpchbbbjiaaGreatDoorSk14
import Derived.Test.YthfjgpchbbbjiaaGreatDoorSk15
import Derived.Test.YthfjgpchbbbjiaaGreatDoorSk16
import Derived.Test.YthfjgpchbbbjiaaGreatDoorSk17
import Derived.Test.YthfjgpchbbbjiaaGreatDoorSk18
import Derived.Test.YthfjgpchbbbjiaaGreatDoorSk19
import Derived.Test.YthfjgpchbbbjiaaGreatDoorSk20
import Derived.Test.YthfjgpchbbbjiaaGreatDoorSk21
import Derived.Test.YthfjgpchbbbjiaaGreatDoorSk22
import Derived.Test.YthfjgpchbbbjiaaGreatDoorSk24
import Derived.Test.YthfjgpchbbbjiaaGreatDoorSk25
import Derived.Test.YthfjgpchbbbjiaaGreatDoorSk26
import Derived.Test.YthfjgpchbbbjiaaGreatDoorSk27
import Derived.Test.YthfjgpchbbbjiaaGreatDoorSk28
import Derived.Test.YthfjgpchbbbjiaaGreatDoorSk29
import Derived.Test.YthfjgpchbbbjiaaGreatDoorSk30
import Derived.Test.YthfjgpchbbbjiaaGreatDoorSk31
namespace Go.Proofs.YthfjgpchbbbjiaaGreatDoor
open Go.RowKit Go.Deep
set_option linter.unusedVariables false
set_option linter.unusedSimpArgs false

theorem qchg_below {w w' : World} (h : Chg (fun _ => False) w w') : Below w.heap.size w w' := ⟨h.os, h.tape, h.output, h.size, fun i hi => h.block i hi (fun x => x)⟩
theorem seekI_spec : ∀ (l : List PlM) (F : PlM → Bool), seekI l F 0 ≤ l.length ∧ (∀ q p, q < seekI l F 0 → l[q]? = some p → F p = false) ∧ (∀ p, l[seekI l F 0]? = some p → F p = true) := by
  intro l F
  have e : ∀ m : List PlM, seekI m F 0 = (m.takeWhile fun p => !F p).length := fun m => by unfold seekI; rw [List.drop_zero, Nat.zero_add]
  induction l with
  | nil => exact ⟨Nat.le_refl _, (fun q p hq hp => by simp at hp), (fun p hp => by simp at hp)⟩
  | cons a l ih =>
    obtain ⟨h1, h2, h3⟩ := ih
    rw [e] at h1 h2 h3 ⊢
    rw [List.takeWhile_cons]
    cases hF : F a with
    | true =>
      refine ⟨Nat.zero_le _, (fun q p hq hp => by simp at hq), fun p hp => ?_⟩
      simp at hp
      rw [← hp]; exact hF
    | false =>
      refine ⟨?_, fun q p hq hp => ?_, fun p hp => ?_⟩
      · simp; exact h1
      · cases q with
        | zero => simp at hp; rw [← hp]; exact hF
        | succ q => exact h2 q p (by simpa using hq) (by simpa using hp)
      · exact h3 p (by simpa using hp)
theorem seekI_mono (l : List PlM) {F G : PlM → Bool} (h : ∀ p, G p = true → F p = true) : seekI l F 0 ≤ seekI l G 0 := by
  obtain ⟨f1, f2, f3⟩ := seekI_spec l F
  obtain ⟨g1, g2, g3⟩ := seekI_spec l G
  refine Nat.not_lt.1 fun hx => ?_
  have hlt : seekI l G 0 < l.length := by omega
  have hp : l[seekI l G 0]? = some l[seekI l G 0] := List.getElem?_eq_getElem hlt
  have := h _ (g3 _ hp)
  rw [f2 _ _ hx hp] at this
  cases this
theorem fit_small {i d : Int} (h0 : 0 ≤ i) (h1 : i ≤ 1000000) (d0 : 0 ≤ d) (d1 : d ≤ 1000000) : (⟨i, 0, 0, d⟩ : PlM).fit = true := by
  unfold PlM.fit
  rw [fit4_iff]
  intro k hk
  match k, hk with
  | 0, _ => exact ⟨h0, by show i < 256 ^ 6; omega⟩
  | 1, _ => exact ⟨Int.le_refl 0, by show (0 : Int) < 256 ^ 2; decide⟩
  | 2, _ => exact ⟨Int.le_refl 0, by show (0 : Int) < 256 ^ 5; decide⟩
  | 3, _ => exact ⟨d0, by show d < 256 ^ 7; omega⟩
/-- k entries of one queue. -/
def OneQ (w wr : World) (qb k : Nat) : Prop := ∃ mv g st L, QsI w wr qb mv g st (2 * k) L ∧ L.length ≤ k ∧ (lnD L kA).base = 0 ∧ (lnD L kA).least = 0 ∧ (lnD L kA).es.length = k ∧ st.size = 20 * k ∧ st.cap = 1048576
theorem dropK_len {β : Type} (L : List (QK × β)) (k : QK) : (dropK L k).length ≤ L.length := List.length_filter_le _ _
theorem u8_wf {n : Int} (h : (Lit.int .u8 n).wf = true) : 0 ≤ n ∧ n ≤ 255 := by
  have h2 : IntKind.u8.min ≤ n ∧ n ≤ IntKind.u8.max := by simpa [Lit.wf] using h
  rw [show IntKind.u8.min = (0 : Int) from by decide, show IntKind.u8.max = (255 : Int) from by decide] at h2
  exact h2
set_option maxHeartbeats 4000000 in
set_option maxRecDepth 100000 in
theorem walkF_CqSeeks (v : Value) (zs : List Int) (a b : Int) (w : World) (ht : Tab10 w) (hv : IntsOf .u8 w v zs) (hf : ∀ n ∈ zs, (Lit.int .u8 n).wf = true) (wa : (Lit.int .i64 a).wf = true) (wb : (Lit.int .i64 b).wf = true) :
    Calls Tryz.prog 6 #[v, .int .i64 a, .int .i64 b] w fun e w' => e = .returned (.bool true) ∧ Below w.heap.size w w' := by
  have HT := Lib.hid ht
  obtain ⟨va, vc, rfl⟩ : ∃ a cap, v = .slice a zs.length cap := by obtain ⟨a, cap, e, _⟩ := hv; exact ⟨a, cap, e⟩
  have HV := Lib.hid hv
  have HF := Lib.hid hf
  obtain ⟨n, hn⟩ : ∃ n, n = zs.length := ⟨_, rfl⟩
  have HNL := Lib.hid hn
  rw [← hn] at HV ⊢
  clear ht hv hf hn
  go_enter Tryz.func6, Tryz.ntmps6
  go_wp2_with fail
  refine (qawake_any w HT.out).mono ?_
  rintro e w1 ⟨rfl, hc1⟩
  have HC1 := Lib.hid hc1
  clear hc1
  by_cases h60 : 60 < n
  · go_wp2_with fail
    go_ret
    exact ⟨rfl, qchg_below HC1.out⟩
  have HN := Lib.hid (new_any 1048576 w1)
  go_wp2_with fail
  refine HN.out.mono ?_
  rintro e w2 ⟨rfl, hd2, hb2⟩
  have HQ := Lib.hid (qfirst_new HC1.out HT.out 1048576 hd2 hb2)
  clear hd2 hb2
  go_wp2_with fail
  refine HQ.out.mono ?_
  rintro e w3 ⟨qb, g, rfl, h3⟩
  have HO : Hid (OneQ w w3 qb 0) := Lib.hid ⟨none, g, _, [], h3, Nat.le_refl _, rfl, rfl, rfl, rfl, rfl⟩
  clear h3
  go_wp2_with fail
  go_loopw [9, 32] (fun vn vi wr => ∃ (k : Nat) (now : Int), k ≤ n ∧ vi = .int .i64 k ∧ vn = .int .i64 now ∧ 0 ≤ now ∧ now ≤ 255 * k ∧ OneQ w wr qb k) (fun _ vi _ => n - (intOf vi).toNat)
  case atStart => exact ⟨0, 0, Nat.zero_le _, rfl, rfl, by omega, by omega, HO.out⟩
  case round =>
    obtain ⟨k, now, hk, rfl, rfl, h0, h1, hO⟩ := hrel
    have HO := Lib.hid hO
    clear hO
    by_cases hlt : k < n
    · have hcw : Chg (fun _ => False) w wr := by obtain ⟨mv, g, st, L, hq, _⟩ := HO.out; exact hq.q.disk.chg
      obtain ⟨vb, vo, rfl, hln, hcell⟩ := (HV.out.below (qchg_below hcw) (Nat.le_refl _)).cellAt (i := k) (by rw [← HNL.out]; exact hlt)
      obtain ⟨x, hx⟩ : ∃ x, x = zs.getD k 0 := ⟨_, rfl⟩
      rw [← hx] at hcell
      have hxb : 0 ≤ x ∧ x ≤ 255 := u8_wf (HF.out x (by rw [hx, List.getD_eq_getElem?_getD, List.getElem?_eq_getElem (by rw [← HNL.out]; exact hlt)]; exact List.getElem_mem _))
      clear hx hln
      have hx0 := hxb.1
      have hx1 := hxb.2
      clear hxb hcw
      go_upto_region 13 with fail
      have hA : Hid (Calls Tryz.prog 12 #[.pointer (some ⟨qb, 0, none⟩), .string aT, .int .i64 0, .agg #[.int .i64 (k : Int), .int .i64 0, .int .i64 0, .int .i64 (now + x)]] wr fun e w' => ∃ y, e = .returned (.tuple #[.int .i64 y, .int .i64 0]) ∧ OneQ w w' qb (k + 1)) := Lib.hid (by
        obtain ⟨mv, g, st, L, hq, o1, o2, o3, o4, o5, o6⟩ := HO.out
        refine (qadd_any hq (by omega) (by omega) kA aT 0 rfl rfl aT_topic (by decide) ⟨k, 0, 0, now + x⟩ (fit_small (by omega) (by omega) (by omega) (by omega)) (by omega)).mono ?_
        rintro e w' ⟨x1, mv1, g1, st1, rfl, a1, a2, a3, a4, a5, a6, a7, a8⟩
        refine ⟨_, rfl, mv1, g1, st1, _, a1, ?_, ?_, ?_, ?_, by omega, by omega⟩
        · rw [List.length_append]; have := dropK_len L kA; show _ + 1 ≤ _; omega
        · rw [lnD_last, a5, o2]
        · rw [lnD_last, a6, o3]
        · rw [lnD_last, a7, List.length_append, o4]; rfl)
      clear HO
      go_wp2_with fail
      refine hA.out.mono ?_
      rintro e w4 ⟨y, rfl, hO4⟩
      have HO4 := Lib.hid hO4
      clear hO4 hA
      go_wp2_with fail
      exact ⟨⟨k + 1, now + x, by omega, by go_num, rfl, by omega, by omega, HO4.out⟩, by simp [intOf]; omega⟩
    · have hkn : k = n := by omega
      subst hkn
      obtain ⟨mv, g, st, L, hq, o1, o2, o3, o4, o5, o6⟩ := HO.out
      obtain ⟨es, hes⟩ : ∃ es, es = (lnD L kA).es := ⟨_, rfl⟩
      rw [← hes] at o4
      have hsk : ∀ z W, Chg (fun _ => False) wr W → Calls Tryz.prog 16 #[.pointer (some ⟨qb, 0, none⟩), .string aT, .int .i64 0, .int .i64 z] W fun e w' => e = .returned (.int .i64 ((seekI es (funSeek z) 0 : Nat) : Int)) ∧ Below W.heap.size W w' := fun z W hW => by
        have := qseek_any (hq.new hW) (by omega) kA z
        unfold seekL at this
        rw [o2, o3, ← hes, Nat.zero_add, Nat.sub_self] at this
        exact this
      have hat : ∀ W, Chg (fun _ => False) wr W → ∀ (i : Nat) p, es[i]? = some p → Calls Tryz.prog 15 #[.pointer (some ⟨qb, 0, none⟩), .string aT, .int .i64 0, .int .i64 (i : Int)] W (AtTo p 0 W) := fun W hW i p hp =>
        qat_ok (hq.new hW) (by omega) kA i i p (by rw [o2]; omega) (by rw [← hes]; exact hp) (by rw [o3]; omega)
      have hcw := hq.q.disk.chg
      obtain ⟨s1, s2, s3⟩ := seekI_spec es (funSeek (max a b))
      have hmono : seekI es (funSeek (min a b)) 0 ≤ seekI es (funSeek (max a b)) 0 := seekI_mono es (fun p hp => by
        unfold funSeek at *
        have := of_decide_eq_true hp
        exact decide_eq_true (by omega))
      have HSK := Lib.hid hsk
      have HAT := Lib.hid hat
      have HCW := Lib.hid hcw
      have HS3 := Lib.hid s3
      obtain ⟨lo, hlo⟩ : ∃ y, y = seekI es (funSeek (min a b)) 0 := ⟨_, rfl⟩
      obtain ⟨hi, hhi⟩ : ∃ y, y = seekI es (funSeek (max a b)) 0 := ⟨_, rfl⟩
      have HSL : Hid (∀ W, Chg (fun _ => False) wr W → Calls Tryz.prog 16 #[.pointer (some ⟨qb, 0, none⟩), .string aT, .int .i64 0, .int .i64 (min a b)] W fun e w' => e = .returned (.int .i64 (lo : Int)) ∧ Below W.heap.size W w') := Lib.hid (by rw [hlo]; exact hsk _)
      have HSH : Hid (∀ W, Chg (fun _ => False) wr W → Calls Tryz.prog 16 #[.pointer (some ⟨qb, 0, none⟩), .string aT, .int .i64 0, .int .i64 (max a b)] W fun e w' => e = .returned (.int .i64 (hi : Int)) ∧ Below W.heap.size W w') := Lib.hid (by rw [hhi]; exact hsk _)
      rw [← hlo, ← hhi] at hmono
      rw [← hhi] at s1 HS3
      rw [o4] at s1
      have HLEN := Lib.hid o4
      clear hq o1 o2 o3 o4 o5 o6 hes hsk hat hcw s2 s3 hlo hhi HSK HO
      go_wp2_with fail
      refine (HSL.out wr (Chg.refl _ _)).mono ?_
      rintro e w5 ⟨rfl, hb5⟩
      have HC5 : Hid (Chg (fun _ => False) wr w5) := Lib.hid (Chg.of_below hb5)
      clear hb5
      go_wp2_with fail
      refine (HSH.out w5 HC5.out).mono ?_
      rintro e w6 ⟨rfl, hb6⟩
      have HC6 : Hid (Chg (fun _ => False) wr w6) := Lib.hid (HC5.out.trans (Chg.of_below hb6 : Chg (fun _ => False) w5 w6) (fun _ _ x => x))
      clear hb6
      by_cases hik : hi < k
      · obtain ⟨p, hp⟩ : ∃ p, es[hi]? = some p := ⟨_, List.getElem?_eq_getElem (by rw [HLEN.out]; exact hik)⟩
        have hA := HAT.out w6 HC6.out hi p hp
        have hpd : max a b ≤ p.d := of_decide_eq_true (HS3.out p hp)
        obtain ⟨pa, pb, pc, pd⟩ := p
        unfold AtTo PlM.val at hA
        dsimp only at hA hpd
        have HA := Lib.hid hA
        obtain ⟨mx, hmx⟩ : ∃ y, y = max a b := ⟨_, rfl⟩
        rw [← hmx] at hpd
        clear hA hp
        have hdm : decide (mx ≤ pd) = true := decide_eq_true hpd
        have HMX := Lib.hid hmx
        clear hmx
        go_wp2_with fail
        refine HA.out.mono ?_
        rintro e w7 ⟨rfl, hb7⟩
        have HC7 : Hid (Chg (fun _ => False) w w7) := Lib.hid (HCW.out.trans (HC6.out.trans (Chg.of_below hb7 : Chg (fun _ => False) w6 w7) (fun _ _ x => x)) (fun _ _ x => x))
        clear hb7
        rw [HMX.out] at hdm
        go_wp2_with fail
        go_ret
        exact ⟨rfl, (qchg_below HC7.out).alloc HC7.out.size _⟩
      · have hke : hi = k := by omega
        subst hke
        go_wp2_with fail
        go_ret
        exact ⟨rfl, qchg_below (HCW.out.trans HC6.out (fun _ _ x => x))⟩
end Go.Proofs.YthfjgpchbbbjiaaGreatDoor

