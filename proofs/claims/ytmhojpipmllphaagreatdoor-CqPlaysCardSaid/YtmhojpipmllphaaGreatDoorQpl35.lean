/-
  Part 35: what the statement needs of these texts: QTrim.
-/
import Derived.BigQuiet
import Derived.BigRegion
import Derived.Deep.OwnRows
import Derived.Deep.QuietTactic
import Derived.Deep.RegionHeld3
import Derived.DeepKeys4
import Derived.IntWalk
import Derived.Laws.CopyOwn
import Derived.Laws.OwnMore
import Derived.Laws.RangeAny
import Derived.Lib.AppendStr
import Derived.Lib.AppendZerosOnto
import Derived.Lib.Atoi
import Derived.Lib.AtoiErrMem
import Derived.Lib.BufferRead
import Derived.Lib.BufferWrite
import Derived.Lib.Builder
import Derived.Lib.Hide
import Derived.Lib.ItoaNum
import Derived.Lib.LaidTab
import Derived.Lib.OthersKept
import Derived.Lib.Repeat
import Derived.Lib.SliceRun
import Derived.Lib.Slices
import Derived.Lib.Strings
import Derived.Lib.UnsafeStr
import Derived.Maps.AppendAt
import Derived.Maps.OwnSet
import Derived.Maps.RangeWalk
import Derived.Orders
import Derived.ProofKit
import Derived.RowKit
import Derived.Shelf.GgClosure.StringsIndexFunc
import Derived.Shelf.GgClosure.StringsIndexFuncTop
import Derived.Shelf.LaysM
import Derived.Shelf.SlSortCmp.NoneTotal
import Derived.Shelf.Slices.In.SortNone
import Derived.Shelf.Slices.SearchI
import Derived.Shelf.Small.Wraps
import Derived.Shelf.Sort.Plain
import Derived.Shelf.Strconv.Atoi
import Derived.Shelf.Strconv.Itoa3
import Derived.Shelf.Strings.Builder1
import Derived.Shelf.Strings.Prefix
import Derived.Shelf.Strings.Repeat
import Derived.Sort.KeysCollected
import Derived.Sort.OwnSorted
import Derived.StillTailTactics
import Derived.StringKeys
import Derived.Test.YtmhojpipmllphaaGreatDoorProg
import Derived.Test.YtmhojpipmllphaaGreatDoorRows
import Derived.WalkKit
import Derived.WalkLawsBesides
import Derived.WalkSmall
import Derived.WalkSpells
import Derived.Test.YtmhojpipmllphaaGreatDoorQpl1
import Derived.Test.YtmhojpipmllphaaGreatDoorQpl2
import Derived.Test.YtmhojpipmllphaaGreatDoorQpl3
import Derived.Test.YtmhojpipmllphaaGreatDoorQpl4
import Derived.Test.YtmhojpipmllphaaGreatDoorQpl5
import Derived.Test.YtmhojpipmllphaaGreatDoorQpl6
import Derived.Test.YtmhojpipmllphaaGreatDoorQpl7
import Derived.Test.YtmhojpipmllphaaGreatDoorQpl8
import Derived.Test.YtmhojpipmllphaaGreatDoorQpl10
import Derived.Test.YtmhojpipmllphaaGreatDoorQpl11
import Derived.Test.YtmhojpipmllphaaGreatDoorQpl12
import Derived.Test.YtmhojpipmllphaaGreatDoorQpl13
import Derived.Test.YtmhojpipmllphaaGreatDoorQpl14
import Derived.Test.YtmhojpipmllphaaGreatDoorQpl15
import Derived.Test.YtmhojpipmllphaaGreatDoorQpl16
import Derived.Test.YtmhojpipmllphaaGreatDoorQpl17
import Derived.Test.YtmhojpipmllphaaGreatDoorQpl18
import Derived.Test.YtmhojpipmllphaaGreatDoorQpl19
import Derived.Test.YtmhojpipmllphaaGreatDoorQpl20
import Derived.Test.YtmhojpipmllphaaGreatDoorQpl21
import Derived.Test.YtmhojpipmllphaaGreatDoorQpl22
import Derived.Test.YtmhojpipmllphaaGreatDoorQpl23
import Derived.Test.YtmhojpipmllphaaGreatDoorQpl26
import Derived.Test.YtmhojpipmllphaaGreatDoorQpl27
import Derived.Test.YtmhojpipmllphaaGreatDoorQpl28
import Derived.Test.YtmhojpipmllphaaGreatDoorQpl29
import Derived.Test.YtmhojpipmllphaaGreatDoorQpl30
import Derived.Test.YtmhojpipmllphaaGreatDoorQpl31
import Derived.Test.YtmhojpipmllphaaGreatDoorQpl32
import Derived.Test.YtmhojpipmllphaaGreatDoorQpl33
import Derived.Test.YtmhojpipmllphaaGreatDoorQpl34
namespace Go.Proofs.YtmhojpipmllphaaGreatDoor
open Go.RowKit Go.Deep
open Classical
set_option linter.unusedVariables false
set_option linter.unusedSimpArgs false

theorem makeI (n : Nat) (h : n ≤ 1000000000) : ∃ Z, (∀ W : World, (Instr.makeSlice 87 (.int .i64 n) (.int .i64 n)).run Tryz.prog W = .ok (.slice (some ⟨W.heap.size, 0, none⟩) n n) (W.alloc (.cells Z 3))) ∧
    ∀ W : World, (W.alloc (.cells Z 3)).rowIs W.heap.size 3 n (fun _ => .int .i64 0) :=
  ⟨madeCells #[.int .i64 0] n, fun W => run_make_row' (P := Tryz.prog) 87 3 (.int .i64 0) 8 Tryz.underlying87 (by kernel_rfl) rfl .i64 .i64 n (by omega) (by omega) W, fun W => World.rowIs_made W (.int .i64 0) n 3⟩
/-- The queues' row: its cells. -/
def IdsC (w : World) (lo hi : Nat) (p : Option Addr) (l : List QK) : Prop := ∀ i k, l[i]? = some k → ∃ b, p = some ⟨b, 0, none⟩ ∧ lo ≤ b ∧ b < hi ∧ w.cell? ⟨b, i * 2, none⟩ = some (.string k.1.1) ∧ w.cell? ⟨b, i * 2 + 1, none⟩ = some (.int .i64 k.1.2)
theorem IdsC.keep {w w' : World} {lo hi : Nat} {p : Option Addr} {l : List QK} (h : IdsC w lo hi p l) (hk : ∀ b o v, lo ≤ b → b < hi → w.cell? ⟨b, o, none⟩ = some v → w'.cell? ⟨b, o, none⟩ = some v) : IdsC w' lo hi p l := fun i k hi2 => by
  obtain ⟨b, h1, h2, h3, h4, h5⟩ := h i k hi2
  exact ⟨b, h1, h2, h3, hk _ _ _ h2 h3 h4, hk _ _ _ h2 h3 h5⟩
theorem IdsAt.form {w : World} {base : Nat} {v : Value} {l : List QK} (h : IdsAt w base v l) : ∃ (p : Option Addr) (cap : Nat), v = .slice p l.length cap ∧ IdsC w base w.heap.size p l := by
  rcases h.2 with ⟨rfl, h0⟩ | ⟨g1, cap, cur, rfl, hbase, hb, h1, h2, h3, h4⟩
  · obtain rfl : l = [] := List.length_eq_zero_iff.1 h0
    exact ⟨none, 0, rfl, fun i k hi => by simp at hi⟩
  · have hcell : ∀ j, j < l.length * 2 → cur[j]? = (l.flatMap qenc)[j]? := fun j hj => by
      have e1 : (cur.toList.take (l.length * 2))[j]? = (l.flatMap qenc)[j]? := by rw [h4]
      rwa [List.getElem?_take, if_pos hj, Array.getElem?_toList] at e1
    refine ⟨_, cap, rfl, fun i k hi => ⟨g1, rfl, hbase, (Array.getElem?_eq_some_iff.1 hb).1, ?_, ?_⟩⟩
    · have hlt := (List.getElem?_eq_some_iff.1 hi).1
      have := hcell (i * 2) (by omega)
      have e := qflat_get qenc_length l i 0 (by omega)
      rw [Nat.add_zero, hi] at e
      simp only [World.cell?, hb]
      rw [this, e]
      rfl
    · have hlt := (List.getElem?_eq_some_iff.1 hi).1
      have := hcell (i * 2 + 1) (by omega)
      have e := qflat_get qenc_length l i 1 (by omega)
      rw [hi] at e
      simp only [World.cell?, hb]
      rw [this, e]
      rfl
/-- What Trim leaves. -/
def QTrimTo (w0 w : World) (qb : Nat) (mv : Option Nat) (g : Gh) (st : St) (n : Nat) (L : List (QK × LnM)) (z : Int) (e : Ending) (w' : World) : Prop :=
  e = .returned (.int .i64 0) ∧ ∃ g' st', QsI w0 w' qb mv g' st' n (L.map fun p => (p.1, fT z p.2)) ∧ QTo w (qAll qb mv L g) w' (qAll qb mv (L.map fun p => (p.1, fT z p.2)) g') ∧ Others qH st st' ∧ st'.cap = st.cap ∧ st'.size ≤ st.size ∧ g'.d = g.d ∧ ∀ k x, L = [(k, x)] → Cnt st' k x (tTo z x)
/-- The positions that a trim finds. -/
def tN (L : List (QK × LnM)) (z : Int) (ids : List QK) (j : Nat) : Nat := tTo z (lnD L (ids.getD j default))
theorem tN_at {L : List (QK × LnM)} {z : Int} {ids : List QK} {j : Nat} {k : QK} {x : LnM} (h : ids[j]? = some k) (hk : getK L k = some x) : tN L z ids j = tTo z x := by
  unfold tN lnD
  rw [List.getD_eq_getElem?_getD, h, Option.getD_some, hk, Option.getD_some]
theorem take_succ_at {ids : List QK} {j : Nat} {k : QK} (h : ids[j]? = some k) : ids.take (j + 1) = ids.take j ++ [k] := by
  rw [List.take_add_one, h]
  rfl
theorem take_not {ids : List QK} {j : Nat} {k : QK} (hn : ids.Nodup) (h : ids[j]? = some k) : k ∉ ids.take j := by
  intro hm
  obtain ⟨i, hi, hx⟩ := List.getElem_of_mem hm
  rw [List.length_take] at hi
  rw [List.getElem_take] at hx
  obtain ⟨h1, h2⟩ := List.getElem?_eq_some_iff.1 h
  have := (List.getElem_inj (h₀ := by omega) (h₁ := h1) hn).1 (hx.trans h2.symm)
  omega
/-- What a cell holds, whatever it be. -/
def cellV (w : World) (p : Addr) : Value := (w.cell? p).getD undef
theorem cellV_of {w : World} {p : Addr} {v : Value} (h : w.cell? p = some v) : w.cell? p = some (cellV w p) := by
  unfold cellV
  rw [h]
  rfl
theorem set_off {w : World} {b b2 o o2 : Nat} {v u : Value} (hne : b2 ≠ b) (h : w.cell? ⟨b2, o2, none⟩ = some u) : (w.setCell ⟨b, o, none⟩ v).cell? ⟨b2, o2, none⟩ = some u :=
  (Chg.setCell (S := fun q => q = b) (p := ⟨b, o, none⟩) (Chg.refl _ _) (fun _ => rfl) _).cell h hne
theorem set_has {w : World} {b o : Nat} {v u : Value} (h : w.cell? ⟨b, o, none⟩ = some u) : (w.setCell ⟨b, o, none⟩ v).cell? ⟨b, o, none⟩ = some (cellV (w.setCell ⟨b, o, none⟩ v) ⟨b, o, none⟩) := by
  have : (w.setCell ⟨b, o, none⟩ v).cell? ⟨b, o, none⟩ = some v := World.cell?_setCell_same' w _ v (by rw [h]; rfl)
  exact cellV_of this
set_option maxHeartbeats 4000000 in
set_option maxRecDepth 100000 in
theorem qtrim_any {w0 w : World} {qb : Nat} {mv : Option Nat} {g : Gh} {st : St} {n : Nat} {L : List (QK × LnM)} (h : QsI w0 w qb mv g st n L) (hL : L.length ≤ 1000000) (hn : n ≤ 100000) (z : Int) :
    Calls Tryz.prog 14 #[.pointer (some ⟨qb, 0, none⟩), .int .i64 z] w (QTrimTo w0 w qb mv g st n L z) := by
  obtain ⟨W1, hW1⟩ : ∃ W, W = w.alloc (.cells #[.int .i64 z] 3) := ⟨_, rfl⟩
  have hb0 : Below w.heap.size w W1 := hW1 ▸ (Below.refl _ _).alloc (Nat.le_refl _) _
  have k0 : W1.cell? ⟨w.heap.size, 0, none⟩ = some (.int .i64 z) := by rw [hW1]; simp
  have h0 := h.new (Chg.of_below hb0 : Chg (fun _ => False) w W1)
  have hI := qids_any h0.q.at_ h0.map (by unfold lbs; rw [List.length_map]; exact hL)
  have HI := Lib.hid hI
  have HW1 := Lib.hid hW1
  have HB0 := Lib.hid hb0
  have HH := Lib.hid h
  have HF1 : Hid (∀ W, Below W1.heap.size W1 W → ∀ (k : QK) (x : LnM), getK L k = some x → Calls Tryz.prog 30 #[.pointer (some ⟨qb, 0, none⟩), .agg #[.string k.1.1, .int .i64 k.1.2]] W fun e w' => e = .returned (.pointer (some ⟨x.lb, 0, none⟩)) ∧ Below W.heap.size W w') := Lib.hid (fun W hW k x hx => by
    have h2 := h0.new (Chg.of_below hW : Chg (fun _ => False) W1 W)
    have := qfind_any h2.q.at_ h2.map k
    rw [getK_lbs, hx] at this
    exact this)
  have HS1 : Hid (∀ W, Below W1.heap.size W1 W → ∀ (k : QK) (x : LnM), getK L k = some x → Calls Tryz.prog 33 #[.pointer (some ⟨x.lb, 0, none⟩), .func (.func 35) #[] #[.pointer (some ⟨w.heap.size, 0, none⟩)]] W fun e w' => e = .returned (.tuple #[.int .i64 (tTo z x : Int), .int .i64 0]) ∧ Below W.heap.size W w') := Lib.hid (fun W hW k x hx => by
    have hm := getK_mem hx
    have hk1 := (hW.cell (p := ⟨w.heap.size, 0, none⟩) (World.block_lt_of_cell? _ _ k0)).trans k0
    exact seekTrim_any h.q.calm ((h0.q.ln _ hm).new (Chg.of_below hW)) hn (h.lo _ hm) w.heap.size z hk1)
  clear hI hW1 hb0 h h0 k0
  go_enter Tryz.func14, Tryz.ntmps14
  go_upto_region 1 with fail
  rw [← HW1.out]
  go_wp2_with fail
  refine HI.out.mono ?_
  rintro e w2 ⟨v, ids, rfl, hperm, hsort, hat, hb2⟩
  obtain ⟨p, cap, rfl, hidc⟩ := hat.form
  have hkeys : ids.Perm (L.map (·.1)) := by
    have e : (lbs L).map (·.1) = L.map (·.1) := by unfold lbs; rw [List.map_map]; rfl
    rwa [e] at hperm
  have hnd : ids.Nodup := hkeys.nodup_iff.2 HH.out.q.keys
  have HX : Hid (∀ i kq, ids[i]? = some kq → ∃ x, getK L kq = some x) := Lib.hid (fun i kq hi => by
    have h1 : kq ∈ L.map (·.1) := hkeys.mem_iff.1 (List.mem_of_getElem? hi)
    obtain ⟨pr, hp1, rfl⟩ := List.mem_map.1 h1
    exact ⟨pr.2, getK_of HH.out.q.keys hp1⟩)
  obtain ⟨N, hN⟩ : ∃ N, N = ids.length := ⟨_, rfl⟩
  have hNL : N ≤ 1000000 := by rw [hN, hkeys.length_eq, List.length_map]; exact hL
  rw [← hN]
  have HN := Lib.hid hN
  have HKEYS := Lib.hid hkeys
  have HND := Lib.hid hnd
  have HIDC := Lib.hid hidc
  have HB2 := Lib.hid hb2
  obtain ⟨Z, hmk, hrow⟩ := makeI N (by omega)
  have HROW := Lib.hid hrow
  obtain ⟨T, hT⟩ : ∃ T, T = tN L z ids := ⟨_, rfl⟩
  have HT : Hid (∀ i kq x, ids[i]? = some kq → getK L kq = some x → T i = tTo z x) := Lib.hid (fun i kq x h1 h2 => by rw [hT]; exact tN_at h1 h2)
  clear hperm hsort hat hidc hb2 hkeys hnd hN hrow hT
  go_wp2_with fail
  go_loopw [27] (fun i wr => ∃ k : Nat, k ≤ N ∧ i = .int .i64 (k : Int) ∧ Hid (wr.rowIs w2.heap.size 3 N (fun j => .int .i64 (if j < k then (T j : Int) else 0))) ∧ Hid (IdsC wr W1.heap.size w2.heap.size p ids) ∧ Hid (Below W1.heap.size W1 wr)) (fun i _ => N - (intOf i).toNat)
  case atStart =>
    exact ⟨0, Nat.zero_le _, rfl, Lib.hid ((HROW.out w2).congr (fun i hi => by simp)), Lib.hid (HIDC.out.keep (fun b o v h1 h2 hv => (Chg.alloc (S := fun _ => False) (Chg.refl _ _) _).cell hv (fun x => x))), Lib.hid (HB2.out.alloc HB2.out.size _)⟩
  case round =>
    obtain ⟨k, hk, rfl, HR, HC, HB⟩ := hrel
    by_cases hlt : k < N
    · obtain ⟨kq, hkq⟩ : ∃ kq, ids[k]? = some kq := ⟨_, List.getElem?_eq_getElem (by rw [← HN.out]; exact hlt)⟩
      obtain ⟨x, hx⟩ := HX.out k kq hkq
      obtain ⟨b, rfl, hbl, hbh, c0, c1⟩ := HC.out k kq hkq
      have htk := HT.out k kq x hkq hx
      have HXX := Lib.hid hx
      have HTK := Lib.hid htk
      have hs2 : W1.heap.size ≤ w2.heap.size := HB2.out.size
      have hB2lt : w2.heap.size < wr.heap.size := HR.out.lt
      obtain ⟨⟨kt, kn⟩, kp⟩ := kq
      dsimp only at c0 c1
      clear hkq hx htk
      go_wp2_with fail
      refine (HF1.out _ ?_ _ _ HXX.out).mono ?_
      · exact HB.out.alloc HB.out.size _
      rintro e w3 ⟨rfl, hb3⟩
      have hw3 : Below wr.heap.size wr w3 := ((Below.refl wr.heap.size wr).alloc (Nat.le_refl _) _).trans (hb3.mono (by simp))
      have HW3 := Lib.hid hw3
      clear hb3 hw3 c0 c1
      go_wp2_with fail
      refine (HS1.out _ ?_ _ _ HXX.out).mono ?_
      · exact HB.out.trans (HW3.out.mono HB.out.size)
      rintro e w4 ⟨rfl, hb4⟩
      have hw4 : Below wr.heap.size wr w4 := HW3.out.trans (hb4.mono HW3.out.size)
      rw [← HTK.out]
      have hr4 : w4.rowIs w2.heap.size 3 N (fun j => .int .i64 (if j < k then (T j : Int) else 0)) := HR.out.of_block (hw4.block _ hB2lt)
      have d4 := hr4.cell hlt
      have f4 := hr4.frozen k
      have HR4 := Lib.hid hr4
      have HC4 : Hid (IdsC w4 W1.heap.size w2.heap.size (some ⟨b, 0, none⟩) ids) := Lib.hid (HC.out.keep (fun b o v h1 h2 hv => (hw4.cell (p := ⟨b, o, none⟩) (by show b < _; omega)).trans hv))
      have HBB4 : Hid (Below W1.heap.size W1 w4) := Lib.hid (HB.out.trans (hw4.mono HB.out.size))
      clear hr4 hb4 hw4
      go_wp2_with fail
      refine ⟨⟨k + 1, by omega, by go_num, Lib.hid ((HR4.out.set k _).congr (fun i hi => ?_)), Lib.hid (HC4.out.keep (fun b o v h1 h2 hv => ?_)), Lib.hid (HBB4.out.setCell (p := ⟨w2.heap.size, k, none⟩) hs2 _)⟩, by simp [intOf]; omega⟩
      · rcases Nat.lt_trichotomy i k with h | rfl | h
        · simp [Nat.ne_of_lt h, h, Nat.lt_succ_of_lt h]
        · simp
        · rw [if_neg (by omega), if_neg (by omega), if_neg (by omega)]
      · refine (Chg.setCell (S := fun q => q = w2.heap.size) (p := ⟨w2.heap.size, k, none⟩) (Chg.refl _ _) (fun _ => rfl) _).cell hv (fun hq => ?_)
        have hq : b = w2.heap.size := hq
        omega
    · have hkN : N = k := by omega
      subst hkN
      clear hk hlt
      obtain ⟨W2, hW2⟩ : ∃ W2 : World, W2 = wr := ⟨_, rfl⟩
      subst hW2
      have hT0 : TrI w0 W2 W2 qb mv g st n L (mixL [] id (dT z) L) g st := by
        rw [mixL_nil]
        have e : (L.map fun p => (p.1, id p.2)) = L := by
          conv => rhs; rw [← List.map_id L]
          rfl
        rw [e]
        have hc : Chg (fun _ => False) w W2 := (Chg.of_below HB0.out : Chg (fun _ => False) w W1).trans (Chg.of_below HB.out) (fun _ _ x => x)
        exact ⟨HH.out.q.new hc, QTo.refl _ _, HH.out.map.new hc, Others.refl _ _, rfl, Nat.le_refl _, rfl⟩
      have hF2 : ∀ (wr : World) (g1 : Gh) (st1 : St) (ML : List (QK × LnM)), TrI w0 W2 wr qb mv g st n L ML g1 st1 → ∀ W, Below wr.heap.size wr W → ∀ (k : QK) (x : LnM), getK L k = some x → Calls Tryz.prog 30 #[.pointer (some ⟨qb, 0, none⟩), .agg #[.string k.1.1, .int .i64 k.1.2]] W fun e w' => e = .returned (.pointer (some ⟨x.lb, 0, none⟩)) ∧ Below W.heap.size W w' := fun wr g1 st1 ML ht W hW k x hx => by
        have h2 := ht.new (Chg.of_below hW : Chg (fun _ => False) wr W)
        have := qfind_any h2.q.at_ h2.map k
        rw [getK_lbs, hx] at this
        exact this
      have hs2 : W1.heap.size ≤ w2.heap.size := HB2.out.size
      have hs0 : w.heap.size ≤ W1.heap.size := HB0.out.size
      have hB2lt : w2.heap.size < W2.heap.size := HR.out.lt
      have hlow : ∀ q, qAll qb mv L g q → q < w.heap.size := HH.out.q.lt_all
      have hK2 : ∀ (wr : World) (g1 : Gh) (st1 : St) (ML : List (QK × LnM)), TrI w0 W2 wr qb mv g st n L ML g1 st1 → IdsC wr W1.heap.size w2.heap.size p ids ∧ ∀ j, j < N → wr.cell? ⟨w2.heap.size, j, none⟩ = some (.int .i64 (T j : Int)) := fun wr g1 st1 ML ht => by
        refine ⟨HC.out.keep (fun b o v h1 h2 hv => ht.to_.chg.cell hv (fun hx => ?_)), fun j hj => ?_⟩
        · have : b < w.heap.size := hlow _ hx
          omega
        · have := HR.out.cell hj
          rw [if_pos hj] at this
          refine ht.to_.chg.cell this (fun hx => ?_)
          have : w2.heap.size < w.heap.size := hlow _ hx
          omega
      have HT0 := Lib.hid hT0
      have HF2 := Lib.hid hF2
      have HK2 := Lib.hid hK2
      have HQ0 : Hid (∀ g1 st1 wr, TrI w0 W2 wr qb mv g st n L (mixL ids (dT z) (fT z) L) g1 st1 → (∀ k x, L = [(k, x)] → Cnt st1 k x (tTo z x)) → QTrimTo w0 w qb mv g st n L z (.returned (.int .i64 0)) wr) := Lib.hid (fun g1 st1 wr ht hc => by
        rw [mixL_all (fun p hp => HKEYS.out.mem_iff.2 (List.mem_map_of_mem hp))] at ht
        have hc0 : Chg (fun _ => False) w W2 := (Chg.of_below HB0.out : Chg (fun _ => False) w W1).trans (Chg.of_below HB.out) (fun _ _ x => x)
        refine ⟨rfl, g1, st1, ⟨ht.q, ?_, fun p hp => ?_⟩, (QTo.of_new hc0).trans ht.to_, ht.oth, ht.cap, ht.size, ht.d, hc⟩
        · have e : lbs (L.map fun p => (p.1, fT z p.2)) = lbs L := by
            unfold lbs
            rw [List.map_map]
            rfl
          rw [e]
          exact ht.map
        · obtain ⟨p0, hp0, rfl⟩ := List.mem_map.1 hp
          exact Nat.le_refl _)
      have HLN : Hid (∀ (k : QK) (x : LnM), getK L k = some x → x.base ≤ x.least ∧ x.least ≤ x.base + x.es.length ∧ x.lo ≤ x.least) := Lib.hid (fun k x hx => by
        have hm := getK_mem hx
        have hl := HH.out.q.ln _ hm
        exact ⟨hl.le, hl.lt, HH.out.lo _ hm⟩)
      clear hT0 hF2 hK2 hlow HF1 HS1 HROW HI HIDC
      go_wp2_with fail
      go_loopw [50] (fun i wr => ∃ k : Nat, k ≤ N ∧ i = .int .i64 (k : Int) ∧ Hid (∃ g1 st1, TrI w0 W2 wr qb mv g st n L (mixL (ids.take k) id (dT z) L) g1 st1 ∧ (0 < k → ∀ k0 x0, L = [(k0, x0)] → Cnt st1 k0 x0 (tTo z x0)))) (fun i _ => N - (intOf i).toNat)
      case atStart => exact ⟨0, Nat.zero_le _, rfl, Lib.hid ⟨g, st, HT0.out, fun h => absurd h (by omega)⟩⟩
      case round =>
        obtain ⟨k, hk, rfl, HR2⟩ := hrel
        by_cases hlt : k < N
        · obtain ⟨g1, st1, ht, hcn⟩ := HR2.out
          obtain ⟨kq, hkq⟩ : ∃ kq, ids[k]? = some kq := ⟨_, List.getElem?_eq_getElem (by rw [← HN.out]; exact hlt)⟩
          obtain ⟨x, hx⟩ := HX.out k kq hkq
          obtain ⟨hc1, hc2⟩ := HK2.out _ _ _ _ ht
          obtain ⟨b, rfl, hbl, hbh, c0, c1⟩ := hc1 k kq hkq
          have d4 := hc2 k hlt
          have htk := HT.out k kq x hkq hx
          have hnot := take_not HND.out hkq
          have hlx := HLN.out kq x hx
          have hqlt := ht.q.lt_all
          have HDR : Hid (∀ W, Below wr.heap.size wr W → Calls Tryz.prog 37 #[.pointer (some ⟨x.lb, 0, none⟩), .int .i64 (T k : Int)] W fun e w' => e = .returned (.int .i64 0) ∧ (∃ g2 st2, TrI w0 W2 w' qb mv g st n L (mixL (ids.take (k + 1)) id (dT z) L) g2 st2 ∧ (0 < k + 1 → ∀ k0 x0, L = [(k0, x0)] → Cnt st2 k0 x0 (tTo z x0))) ∧ ∀ bb o v, (bb = wr.heap.size ∨ bb = w2.heap.size) → W.cell? ⟨bb, o, none⟩ = some v → w'.cell? ⟨bb, o, none⟩ = some v) := Lib.hid (fun W hW => by
            rw [htk, take_succ_at hkq]
            refine (tri_drop (ht.new (Chg.of_below hW)) hn HH.out.q.keys hx hnot hlx.2.2).mono ?_
            rintro e w' ⟨rfl, g2, st2, h1, h2, h3⟩
            refine ⟨rfl, ⟨g2, st2, h1, fun _ k0 x0 hL1 => ?_⟩, fun bb o v hbb hv => h3.cell hv (fun hq => ?_)⟩
            · have hm := getK_mem hx
              rw [hL1, List.mem_singleton] at hm
              cases hm
              exact h2
            · have hq1 : bb < wr.heap.size := hqlt _ hq
              have hq2 : qAll qb mv L g bb ∨ W2.heap.size ≤ bb := ht.to_.new _ hq
              rcases hbb with a | a
              · omega
              · rcases hq2 with c | c
                · have := HH.out.q.lt_all _ c
                  omega
                · omega)
          have hFF := fun W hW => HF2.out _ _ _ _ ht W hW kq x hx
          have hB2wr : w2.heap.size < wr.heap.size := World.block_lt_of_cell? _ _ d4
          obtain ⟨⟨kt, kn⟩, kp⟩ := kq
          obtain ⟨lb, hlb⟩ : ∃ y, y = x.lb := ⟨_, rfl⟩
          rw [← hlb] at HDR hFF
          have HFF := Lib.hid hFF
          have HLB := Lib.hid hlb
          obtain ⟨tk, htk2⟩ : ∃ y, y = T k := ⟨_, rfl⟩
          rw [← htk2] at d4 HDR
          dsimp only at c0 c1 HFF
          clear ht hcn hc1 hc2 hkq hx htk hnot hlx hqlt hFF hlb htk2
          obtain ⟨W3, hW3⟩ : ∃ W, W = wr.alloc (.cells #[.string kt, .int .i64 kn] 72) := ⟨_, rfl⟩
          have hb3 : Below wr.heap.size wr W3 := hW3 ▸ (Below.refl _ _).alloc (Nat.le_refl _) _
          have i0 : W3.cell? ⟨wr.heap.size, 0, none⟩ = some (.string kt) := by rw [hW3]; simp
          have i1 : W3.cell? ⟨wr.heap.size, 1, none⟩ = some (.int .i64 kn) := by rw [hW3]; simp
          have d4 : W3.cell? ⟨w2.heap.size, k, none⟩ = some (.int .i64 (tk : Int)) := (hb3.cell (p := ⟨w2.heap.size, k, none⟩) hB2wr).trans d4
          have HW3 := Lib.hid hW3
          have HB3 := Lib.hid hb3
          clear hW3 hb3
          go_upto_region 17 with fail
          rw [← HW3.out]
          go_cut [14] (fun v14 wx => v14 = .int .i64 0 ∧ Hid (∃ g2 st2, TrI w0 W2 wx qb mv g st n L (mixL (ids.take (k + 1)) id (dT z) L) g2 st2 ∧ (0 < k + 1 → ∀ k0 x0, L = [(k0, x0)] → Cnt st2 k0 x0 (tTo z x0))))
          case first =>
            go_region_held3 (fun w' => w'.cell? ⟨wr.heap.size, 0, none⟩ = some (.string kt) ∧ w'.cell? ⟨wr.heap.size, 1, none⟩ = some (.int .i64 kn) ∧ w'.cell? ⟨w2.heap.size, k, none⟩ = some (.int .i64 (tk : Int)))
              (first | exact ⟨i0, i1, d4⟩ | go_keep)
              (first
                | (go_at_call 30
                   refine (HFF.out _ ?_).mono ?_
                   · repeat (first | exact HB3.out | with_reducible refine Below.drew ?_ | with_reducible refine Below.drewN ?_ _)
                   rintro e w4 ⟨rfl, hb4⟩
                   have i0 := keep4 hb4 i0
                   have i1 := keep4 hb4 i1
                   have d4 := keep4 hb4 d4
                   have HB4 := Lib.hid hb4
                   clear hb4)
                | (go_at_call 37
                   refine (HDR.out _ ?_).mono ?_
                   · repeat (first | exact HB3.out | with_reducible refine Below.drew ?_ | with_reducible refine Below.drewN ?_ _ | refine below_on HB4.out ?_ (Nat.le_refl _))
                   rintro e w5 ⟨rfl, ht5, hk5⟩
                   have i0 := hk5 _ _ _ (.inl rfl) i0
                   have i1 := hk5 _ _ _ (.inl rfl) i1
                   have d4 := hk5 _ _ _ (.inr rfl) d4
                   have HT5 := Lib.hid ht5
                   clear ht5 hk5))
            all_goals
              go_wp2_with fail
              go_meet
              case rel =>
                refine ⟨rfl, Lib.hid ?_⟩
                obtain ⟨g2, st2, h1, h2⟩ := HT5.out
                exact ⟨g2, st2, by repeat (first | exact h1 | exact h1.new ((Chg.refl _ _).drewN _) | exact h1.new ((Chg.refl _ _).drew)), h2⟩
          case rest =>
            obtain ⟨rfl, HT6⟩ := hcut
            go_wp2_with fail
            exact ⟨⟨k + 1, by omega, by go_num, HT6⟩, by simp [intOf]; omega⟩
        · have hkN2 : N = k := by omega
          subst hkN2
          obtain ⟨W4, hW4⟩ : ∃ W4 : World, W4 = wr := ⟨_, rfl⟩
          subst hW4
          obtain ⟨g1, st1, ht, hcn⟩ := HR2.out
          have ht0 : TrI w0 W2 W4 qb mv g st n L (mixL [] (dT z) (fT z) L) g1 st1 := by
            rw [mixL_nil]
            rw [HN.out, List.take_length, mixL_all (fun p hp => HKEYS.out.mem_iff.2 (List.mem_map_of_mem hp))] at ht
            exact ht
          have HCN : Hid (∀ k0 x0, L = [(k0, x0)] → Cnt st1 k0 x0 (tTo z x0)) := Lib.hid (fun k0 x0 hL1 => hcn (by rw [HN.out, HKEYS.out.length_eq, List.length_map, hL1]; exact Nat.one_pos) k0 x0 hL1)
          have HT0' := Lib.hid ht0
          clear hk hlt ht hcn ht0 HT0 HR2
          go_wp2_with fail
          go_loopw [69] (fun i wr => ∃ k : Nat, k ≤ N ∧ i = .int .i64 (k : Int) ∧ Hid (TrI w0 W2 wr qb mv g st n L (mixL (ids.take k) (dT z) (fT z) L) g1 st1)) (fun i _ => N - (intOf i).toNat)
          case atStart => exact ⟨0, Nat.zero_le _, rfl, Lib.hid HT0'.out⟩
          case round =>
            obtain ⟨k, hk, rfl, HR2⟩ := hrel
            by_cases hlt : k < N
            · have ht := HR2.out
              obtain ⟨kq, hkq⟩ : ∃ kq, ids[k]? = some kq := ⟨_, List.getElem?_eq_getElem (by rw [← HN.out]; exact hlt)⟩
              obtain ⟨x, hx⟩ := HX.out k kq hkq
              obtain ⟨hc1, hc2⟩ := HK2.out _ _ _ _ ht
              obtain ⟨b, rfl, hbl, hbh, c0, c1⟩ := hc1 k kq hkq
              have d4 := hc2 k hlt
              have htk := HT.out k kq x hkq hx
              have hnot := take_not HND.out hkq
              have hlx := HLN.out kq x hx
              have hpm := (mixL_focus (f := dT z) (f' := fT z) HH.out.q.keys hx hnot).1
              have hlnk : LnOk w0 wr g1 st1 n kq (dT z x) := (ht.q.perm hpm).ln _ (List.mem_append_right _ (List.mem_singleton.2 rfl))
              obtain ⟨_, _, e2, ez⟩ := line_cell hlnk.at_
              have ez2 := ez 2
              have e2 : wr.cell? ⟨x.lb, 2, none⟩ = some (.int .i64 x.least) := e2
              have ez2 : wr.frozen? ⟨x.lb, 2, none⟩ = false := ez2
              have HST : Hid (∀ W, Below wr.heap.size wr W → TrI w0 W2 (W.setCell ⟨x.lb, 2, none⟩ (.int .i64 (T k : Int))) qb mv g st n L (mixL (ids.take (k + 1)) (dT z) (fT z) L) g1 st1) := Lib.hid (fun W hW => by
                rw [htk, take_succ_at hkq]
                exact tri_least (ht.new (Chg.of_below hW)) HH.out.q.keys hx hnot hlx.1 hlx.2.1)
              have hFF := fun W hW => HF2.out _ _ _ _ ht W hW kq x hx
              have hB2wr : w2.heap.size < wr.heap.size := World.block_lt_of_cell? _ _ d4
              obtain ⟨⟨kt, kn⟩, kp⟩ := kq
              obtain ⟨lb, hlb⟩ : ∃ y, y = x.lb := ⟨_, rfl⟩
              rw [← hlb] at HST hFF e2 ez2
              have hlbwr : lb < wr.heap.size := World.block_lt_of_cell? _ _ e2
              have HFF := Lib.hid hFF
              obtain ⟨tk, htk2⟩ : ∃ y, y = T k := ⟨_, rfl⟩
              rw [← htk2] at d4 HST
              have hlb0 : lb < w.heap.size := by rw [hlb]; exact HH.out.q.lt _ (mem_qfoot_lb (getK_mem hx))
              have HNE : Hid (wr.heap.size ≠ lb ∧ w2.heap.size ≠ lb) := Lib.hid ⟨by omega, by omega⟩
              dsimp only at c0 c1 HFF
              clear ht hc1 hc2 hkq hx htk hnot hlx hFF hlb htk2 hpm hlnk ez hlb0
              obtain ⟨W3, hW3⟩ : ∃ W, W = wr.alloc (.cells #[.string kt, .int .i64 kn] 72) := ⟨_, rfl⟩
              have hb3 : Below wr.heap.size wr W3 := hW3 ▸ (Below.refl _ _).alloc (Nat.le_refl _) _
              have i0 : W3.cell? ⟨wr.heap.size, 0, none⟩ = some (.string kt) := by rw [hW3]; simp
              have i1 : W3.cell? ⟨wr.heap.size, 1, none⟩ = some (.int .i64 kn) := by rw [hW3]; simp
              have d4 : W3.cell? ⟨w2.heap.size, k, none⟩ = some (.int .i64 (tk : Int)) := (hb3.cell (p := ⟨w2.heap.size, k, none⟩) hB2wr).trans d4
              have e2 := cellV_of ((hb3.cell (p := ⟨lb, 2, none⟩) hlbwr).trans e2)
              have ez2 : W3.frozen? ⟨lb, 2, none⟩ = false := by
                have := hb3.block lb hlbwr
                unfold World.frozen? at *
                simp only at *
                rw [this]
                exact ez2
              have HW3 := Lib.hid hW3
              have HB3 := Lib.hid hb3
              clear hW3 hb3
              go_upto_region 24 with fail
              rw [← HW3.out]
              go_region_held3 (fun w' => w'.cell? ⟨wr.heap.size, 0, none⟩ = some (.string kt) ∧ w'.cell? ⟨wr.heap.size, 1, none⟩ = some (.int .i64 kn) ∧ w'.cell? ⟨w2.heap.size, k, none⟩ = some (.int .i64 (tk : Int)) ∧ w'.cell? ⟨lb, 2, none⟩ = some (cellV w' ⟨lb, 2, none⟩) ∧ w'.frozen? ⟨lb, 2, none⟩ = false)
                (first | exact ⟨i0, i1, d4, e2, ez2⟩ | exact ⟨set_off HNE.out.1 (by assumption), set_off HNE.out.1 (by assumption), set_off HNE.out.2 (by assumption), set_has (by assumption), by first | assumption | (simp; done) | (simp; assumption)⟩ | go_keep)
                (first
                  | (go_at_call 30
                     refine (HFF.out _ ?_).mono ?_
                     · repeat (first | exact HB3.out | with_reducible refine Below.drew ?_ | with_reducible refine Below.drewN ?_ _)
                     rintro e w4 ⟨rfl, hb4⟩
                     have ez2 : w4.frozen? ⟨lb, 2, none⟩ = false := by
                       have := hb4.block lb (by have := World.block_lt_of_cell? _ _ e2; exact this)
                       unfold World.frozen? at *
                       simp only at *
                       rw [this]
                       exact ez2
                     have i0 := keep4 hb4 i0
                     have i1 := keep4 hb4 i1
                     have d4 := keep4 hb4 d4
                     have e2 := cellV_of (keep4 hb4 e2)
                     have HB4 := Lib.hid hb4
                     clear hb4))
              all_goals
                go_wp2_with fail
                refine ⟨⟨k + 1, by omega, by go_num, Lib.hid ?_⟩, by simp [intOf]; omega⟩
                repeat (first
                  | refine HST.out _ ?_
                  | refine TrI.new ?_ ((Chg.refl _ _).drewN _)
                  | refine TrI.new ?_ ((Chg.refl _ _).drew))
                repeat (first | exact HB3.out | with_reducible refine Below.drew ?_ | with_reducible refine Below.drewN ?_ _ | refine below_on HB4.out ?_ (Nat.le_refl _))
            · have hkN3 : k = ids.length := by rw [← HN.out]; omega
              have hq := HQ0.out g1 st1 wr (by have := HR2.out; rwa [hkN3, List.take_length] at this) HCN.out
              have HQ := Lib.hid hq
              clear hq
              go_wp2_with fail
              go_ret
              exact HQ.out
end Go.Proofs.YtmhojpipmllphaaGreatDoor

