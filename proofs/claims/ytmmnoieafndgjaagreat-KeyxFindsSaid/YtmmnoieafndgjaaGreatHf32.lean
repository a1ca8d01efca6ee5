/-
  Part 32: what the statement needs of these texts: KFnW.
-/
import Derived.BigQuiet
import Derived.BigRegion
import Derived.Carry
import Derived.ChangeSame
import Derived.Deep.AppendLies
import Derived.Deep.Grids
import Derived.Deep.OwnRows
import Derived.Deep.QuietTactic
import Derived.Deep.RegionHeld3
import Derived.IntWalk
import Derived.Laws.CopyOwn
import Derived.Laws.OwnMore
import Derived.Laws.RangeAny
import Derived.Lib.AppendStr
import Derived.Lib.AppendZerosOnto
import Derived.Lib.Atoi
import Derived.Lib.AtoiErrMem
import Derived.Lib.BufferRead
import Derived.Lib.BufferWrite
import Derived.Lib.Builder
import Derived.Lib.Hide
import Derived.Lib.IndexMore
import Derived.Lib.ItoaNum
import Derived.Lib.LaidTab
import Derived.Lib.OthersKept
import Derived.Lib.Repeat
import Derived.Lib.Slices
import Derived.Lib.SmallJoins
import Derived.Lib.Strings
import Derived.Lib.UnsafeStr
import Derived.Maps.AppendAt
import Derived.Maps.OwnSet
import Derived.Maps.RangeWalk
import Derived.OpenShut
import Derived.Orders
import Derived.ProofKit
import Derived.RowKit
import Derived.Shelf.Slices.In.SortNone
import Derived.Shelf.Small.Wraps
import Derived.Shelf.Sort.Plain
import Derived.Shelf.Strings.Builder1
import Derived.Shelf.Strings.Prefix
import Derived.Shelf.Strings.Repeat
import Derived.SliceStrings
import Derived.Sort.KeysCollected
import Derived.Sort.OwnSorted
import Derived.StillTailTactics
import Derived.StringKeys
import Derived.Test.YtmmnoieafndgjaaGreatProg
import Derived.Test.YtmmnoieafndgjaaGreatRows
import Derived.WalkKit
import Derived.WalkLawsBesides
import Derived.WalkSmall
import Derived.WalkSpells
import Derived.Test.YtmmnoieafndgjaaGreatHf1
import Derived.Test.YtmmnoieafndgjaaGreatHf2
import Derived.Test.YtmmnoieafndgjaaGreatHf3
import Derived.Test.YtmmnoieafndgjaaGreatHf4
import Derived.Test.YtmmnoieafndgjaaGreatHf5
import Derived.Test.YtmmnoieafndgjaaGreatHf6
import Derived.Test.YtmmnoieafndgjaaGreatHf7
import Derived.Test.YtmmnoieafndgjaaGreatHf8
import Derived.Test.YtmmnoieafndgjaaGreatHf9
import Derived.Test.YtmmnoieafndgjaaGreatHf10
import Derived.Test.YtmmnoieafndgjaaGreatHf11
import Derived.Test.YtmmnoieafndgjaaGreatHf12
import Derived.Test.YtmmnoieafndgjaaGreatHf13
import Derived.Test.YtmmnoieafndgjaaGreatHf14
import Derived.Test.YtmmnoieafndgjaaGreatHf15
import Derived.Test.YtmmnoieafndgjaaGreatHf16
import Derived.Test.YtmmnoieafndgjaaGreatHf17
import Derived.Test.YtmmnoieafndgjaaGreatHf18
import Derived.Test.YtmmnoieafndgjaaGreatHf19
import Derived.Test.YtmmnoieafndgjaaGreatHf20
import Derived.Test.YtmmnoieafndgjaaGreatHf21
import Derived.Test.YtmmnoieafndgjaaGreatHf22
import Derived.Test.YtmmnoieafndgjaaGreatHf23
import Derived.Test.YtmmnoieafndgjaaGreatHf24
import Derived.Test.YtmmnoieafndgjaaGreatHf25
import Derived.Test.YtmmnoieafndgjaaGreatHf26
import Derived.Test.YtmmnoieafndgjaaGreatHf27
import Derived.Test.YtmmnoieafndgjaaGreatHf28
import Derived.Test.YtmmnoieafndgjaaGreatHf29
import Derived.Test.YtmmnoieafndgjaaGreatHf30
import Derived.Test.YtmmnoieafndgjaaGreatHf31
namespace Go.Proofs.YtmmnoieafndgjaaGreat
open Go.RowKit Go.Deep
set_option linter.unusedVariables false
set_option linter.unusedSimpArgs false

def adC (a : AdM) : List Value := [.string a.t, .string a.k, .int .i64 a.x, .int .i64 a.y]
theorem adC_one (a : AdM) : ∀ v ∈ adC a, v.oneCell' = true := by
  intro v hv
  simp [adC] at hv
  rcases hv with rfl | rfl | rfl | rfl <;> rfl
theorem info_ad : (Tryz.prog.info? 24).map (fun i => (i.zero, i.size, i.bytes)) = some (some (.agg #[.string ⟨#[]⟩, .string ⟨#[]⟩, .int .i64 0, .int .i64 0]), 4, 48) := by kernel_rfl
theorem adC_get : ∀ (l : List AdM) (i j : Nat) (x : AdM), l[i]? = some x → j < 4 → (l.flatMap adC)[i * 4 + j]? = (adC x)[j]?
  | [], i, j, x, h, _ => by cases h
  | y :: l, 0, j, x, h, hj => by
    simp only [List.getElem?_cons_zero, Option.some.injEq] at h
    subst h
    rw [List.flatMap_cons, Nat.zero_mul, Nat.zero_add, List.getElem?_append_left (by show j < 4; omega)]
  | y :: l, i + 1, j, x, h, hj => by
    rw [List.flatMap_cons, List.getElem?_append_right (by show 4 ≤ _; omega), show (i + 1) * 4 + j - (adC y).length = i * 4 + j by show _ - 4 = _; omega]
    exact adC_get l i j x (by simpa using h) hj
/-- An element of the list of what was added. -/
theorem own_ad {w : World} {base : Nat} {v : Value} {l : List AdM} (h : w.ownsRow base 24 4 v l.length (l.flatMap adC)) {i : Nat} {x : AdM} (hi : l[i]? = some x) :
    ∃ q cap, v = .slice (some ⟨q, 0, none⟩) l.length cap ∧ w.cell? ⟨q, i * 4, none⟩ = some (.string x.t) ∧ w.cell? ⟨q, i * 4 + 1, none⟩ = some (.string x.k) ∧ w.cell? ⟨q, i * 4 + 2, none⟩ = some (.int .i64 x.x) ∧ w.cell? ⟨q, i * 4 + 3, none⟩ = some (.int .i64 x.y) := by
  have hil := (List.getElem?_eq_some_iff.1 hi).1
  rcases h.2 with ⟨_, h0⟩ | ⟨g, cap, cur, rfl, hbase, hb, h1, h2, h3, h4⟩
  · omega
  · have key : ∀ j, j < 4 → w.cell? ⟨g, i * 4 + j, none⟩ = (adC x)[j]? := fun j hj => by
      have e1 : (cur.toList.take (l.length * 4))[i * 4 + j]? = (l.flatMap adC)[i * 4 + j]? := by rw [h4]
      rw [List.getElem?_take, if_pos (by omega), Array.getElem?_toList, adC_get l i j x hi hj] at e1
      simp only [World.cell?, hb]
      exact e1
    exact ⟨g, cap, rfl, key 0 (by decide), key 1 (by decide), key 2 (by decide), key 3 (by decide)⟩
theorem ownr_form {w : World} {base s : Nat} {t : TypeId} {v : Value} {n : Nat} {xs : List Value} (h : w.ownsRow base t s v n xs) : ∃ a cap, v = .slice a n cap := by
  rcases h.2 with ⟨e1, h0⟩ | ⟨g, cap, cur, e1, _⟩
  · exact ⟨none, 0, by rw [e1, h0]⟩
  · exact ⟨_, _, e1⟩
/-- Between two adds: the index, and the list of what was added. -/
structure FndI (w wr : World) (xb n : Nat) (l : List AdM) (base : Nat) (v : Value) : Prop where
  idx : ∃ g st, KxI w wr xb g st n (rF l) ∧ st.cap = 1048576 ∧ ∀ q, v.ownBlock = some q → q ≠ xb ∧ q ∉ g.fp
  own : wr.ownsRow base 24 4 v (accF l).length ((accF l).flatMap adC)
  low : w.heap.size ≤ base
  base : base ≤ wr.heap.size
theorem FndI.new {w wr w' : World} {xb n base : Nat} {l : List AdM} {v : Value} (h : FndI w wr xb n l base v) (hc : Chg (fun _ => False) wr w') : FndI w w' xb n l base v := by
  obtain ⟨g, st, h1, h2, h3⟩ := h.idx
  exact ⟨⟨g, st, h1.new hc, h2, h3⟩, hc.row h.own (fun _ _ x => x), h.low, Nat.le_trans h.base hc.size⟩
theorem FndI.chg {w wr : World} {xb n base : Nat} {l : List AdM} {v : Value} (h : FndI w wr xb n l base v) : Chg (fun _ => False) w wr := by
  obtain ⟨g, st, h1, h2, h3⟩ := h.idx
  exact h1.disk.chg
/-- One more is handed to Add, in a world in which only new blocks came since. -/
theorem FndI.add {w wr W : World} {xb n base : Nat} {l : List AdM} {v : Value} (h : FndI w wr xb n l base v) (hcW : Chg (fun _ => False) wr W) (hn : n ≤ 1000000) (hl : (rF l).length ≤ 10000) (a : AdM) (ht : a.t.size ≤ 1000) (hk : a.k.size ≤ 1000) :
    Calls Tryz.prog 10 #[.pointer (some ⟨xb, 0, none⟩), .string a.t, .string a.k, .int .i64 a.x, .int .i64 a.y] W fun e w' => e = .returned (.int .i64 (addE a.t a.k a.x a.y)) ∧
      (adOk a = false → FndI w w' xb (n + 2) (l ++ [a]) base v) ∧
      (adOk a = true → ∀ w2 q2 c2 cs, (w'.alloc cs).grownBy w2 v.ownBlock → w2.ownsRow base 24 4 (.slice (some ⟨q2, 0, none⟩) ((accF l).length + 1) c2) ((accF l).length + 1) ((accF l).flatMap adC ++ adC a) → (v.ownBlock = some q2 ∨ w'.heap.size ≤ q2) → FndI w w2 xb (n + 2) (l ++ [a]) base (.slice (some ⟨q2, 0, none⟩) ((accF l).length + 1) c2)) ∧
      w'.ownsRow base 24 4 v (accF l).length ((accF l).flatMap adC) ∧ Chg (fun q => q < wr.heap.size ∧ v.ownBlock ≠ some q) W w' ∧ base ≤ w'.heap.size := by
  obtain ⟨g, st, h1, h2, h3⟩ := h.idx
  have hrl : rF (l ++ [a]) = addR (rF l) a.t a.k a.x a.y := by unfold rF; rw [List.foldl_append]; rfl
  have hal : accF (l ++ [a]) = if adOk a = true then accF l ++ [a] else accF l := by
    unfold accF
    rw [List.filter_append, List.filter_cons, List.filter_nil]
    split
    · rfl
    · rw [List.append_nil]
  refine (kput_any (h1.new hcW) hn (by omega) (by rw [h1.size, h2]; omega) a.t a.k (by unfold maxLen; omega) (by unfold maxLen; omega) a.x a.y).mono ?_
  rintro e w' ⟨rfl, g', st', a1, a2, a3⟩
  have hsW := hcW.size
  have hsz := a2.chg.size
  have hbw := h.base
  have hown' : w'.ownsRow base 24 4 v (accF l).length ((accF l).flatMap adC) := a2.chg.row (hcW.row h.own (fun _ _ x => x)) (fun q hq hx => by
    have := h3 q hq
    rcases hx with hx | hx
    · exact this.1 hx
    · exact this.2 hx)
  have hout' : ∀ q, v.ownBlock = some q → q ≠ xb ∧ q ∉ g'.fp := fun q hq => by
    refine ⟨(h3 q hq).1, fun hx => ?_⟩
    rcases a2.fp q hx with h4 | h4
    · exact (h3 q hq).2 h4
    · have := (h.own.lt q hq).2; omega
  refine ⟨rfl, fun ho => ⟨⟨g', st', by rw [hrl]; exact a1, a3.trans h2, hout'⟩, ?_, h.low, by omega⟩, fun ho w2 q2 c2 cs hg hown2 hv2 => ⟨⟨g', st', ?_, a3.trans h2, fun q hq => ?_⟩, ?_, h.low, ?_⟩, hown', a2.chg.wide (fun q hlt hq => ⟨?_, fun hx => ?_⟩), by omega⟩
  · rw [hal, if_neg (by rw [ho]; simp)]
    exact hown'
  · rw [hrl]
    have hcA : Chg (fun _ => False) w' (w'.alloc cs) := Chg.alloc _ (Chg.refl _ _) _
    have hcg : Chg (fun q => v.ownBlock = some q) (w'.alloc cs) w2 := Chg.of_grown hg (fun q hx _ => hx)
    refine (a1.new hcA).chg hcg (fun hx => (hout' xb hx).1 rfl) (fun q hq hx => (hout' q hx).2 hq) (fun q hq hx => ?_)
    have := (h.own.lt q hx).1
    have := h.low
    omega
  · obtain rfl : q2 = q := Option.some.inj hq
    rcases hv2 with h4 | h4
    · exact hout' q2 h4
    · exact ⟨fun hx => by have := a1.lt; omega, fun hx => by have := a1.disk.disk.lt q2 hx; omega⟩
  · rw [hal, if_pos ho, List.length_append, List.flatMap_append]
    simpa using hown2
  · have := hg.size
    rw [World.size_alloc] at this
    omega
  · rcases hq with hq | hq
    · have := h1.lt; omega
    · exact h1.disk.disk.lt q hq
  · have := h3 q hx
    rcases hq with hq | hq
    · exact this.1 hq
    · exact this.2 hq
-- WALK
def msr (v : Value) : Nat := (intOf v + 1).toNat
/-- The law's second loop, between two rounds. -/
def FndL (h0 : Nat) (n0 n1 : Int) (A : List AdM) (Z : List Int) (cnt : Nat) (wB : World) (wv iv : Value) (wr2 : World) : Prop :=
  ∃ (j : Nat) (l : List Int) (iz : Int), j ≤ cnt ∧ iv = .int .i64 iz ∧ iz = (j : Int) - 1 ∧ lawG h0 n0 n1 (((A.take j).map toKE).reverse) l = Z ∧ l.length + j ≤ cnt ∧ wr2.ownsRow wB.heap.size 3 1 wv l.length (l.map (Value.int .i64)) ∧ Chg (fun q => wB.heap.size ≤ q) wB wr2
set_option maxHeartbeats 8000000 in
set_option maxRecDepth 100000 in
theorem walk_KeyxFinds (v : Value) (os : List AdM) (at_ ak : ByteArray) (ax ay n0 n1 : Int) (w : World) (hv : Ads w v os) (hm : os.length ≤ maxLen) (_ : True) :
    Calls Tryz.prog 3 #[v, .agg #[.string at_, .string ak, .int .i64 ax, .int .i64 ay], .agg #[.int .i64 n0, .int .i64 n1]] w fun e w' => e = .returned (.bool true) ∧ Below w.heap.size w w' := by
  obtain ⟨W0, hW0⟩ : ∃ W, W = (w.alloc (.cells #[.string at_, .string ak, .int .i64 ax, .int .i64 ay] 24)).alloc (.cells #[.int .i64 n0, .int .i64 n1] 25) := ⟨_, rfl⟩
  have hb0 : Below w.heap.size w W0 := hW0 ▸ ((Below.refl _ _).alloc (Nat.le_refl _) _).alloc (by rw [World.size_alloc]; omega) _
  have hs0 : W0.heap.size = w.heap.size + 2 := by rw [hW0, World.size_alloc, World.size_alloc]
  obtain ⟨P, hP⟩ : ∃ P, P = w.heap.size := ⟨_, rfl⟩
  have hA0 : W0.heap[P]? = some (.cells #[.string at_, .string ak, .int .i64 ax, .int .i64 ay] 24 (0, 0)) := by
    have h3 : Below (w.heap.size + 1) (w.alloc (.cells #[.string at_, .string ak, .int .i64 ax, .int .i64 ay] 24)) W0 := by
      rw [hW0]
      exact (Below.refl _ _).alloc (by rw [World.size_alloc]; exact Nat.le_refl _) _
    rw [hP, h3.block _ (by omega)]
    exact heap_alloc_new w _
  have hN0 : W0.heap[P + 1]? = some (.cells #[.int .i64 n0, .int .i64 n1] 25 (0, 0)) := by
    have := heap_alloc_new (w.alloc (.cells #[.string at_, .string ak, .int .i64 ax, .int .i64 ay] 24)) (.cells #[.int .i64 n0, .int .i64 n1] 25)
    rw [World.size_alloc, ← hW0] at this
    rw [hP]
    exact this
  have a0 : W0.cell? ⟨P, 0, none⟩ = some (.string at_) := by simp [World.cell?, hA0]
  have a1 : W0.cell? ⟨P, 1, none⟩ = some (.string ak) := by simp [World.cell?, hA0]
  have b0 : W0.cell? ⟨P + 1, 0, none⟩ = some (.int .i64 n0) := by simp [World.cell?, hN0]
  have b1 : W0.cell? ⟨P + 1, 1, none⟩ = some (.int .i64 n1) := by simp [World.cell?, hN0]
  have hv0 : Ads W0 v os := by
    obtain ⟨a, cap, e, h⟩ := hv
    refine ⟨a, cap, e, h.imp id ?_⟩
    rintro ⟨b, o, e1, h⟩
    refine ⟨b, o, e1, fun i x hi j hj => ?_⟩
    have h1 := h i x hi j hj
    have hx : ∃ u, x.cells[j]? = some u := ⟨_, List.getElem?_eq_getElem (by show j < 4; exact hj)⟩
    obtain ⟨u, hu⟩ := hx
    rw [hu] at h1 ⊢
    exact (Chg.of_below hb0 : Chg (fun _ => False) w W0).cell h1 (fun x => x)
  have hto : ∀ w', Chg (fun _ => False) W0 w' → Below w.heap.size w w' := fun w' h => hb0.trans (Below.mono ⟨h.os, h.tape, h.output, h.size, fun i hi => h.block i hi (fun x => x)⟩ hb0.size)
  have HTO := Lib.hid hto
  obtain ⟨a, cap, rfl⟩ := ads_form hv
  obtain ⟨n, hn⟩ : ∃ n, n = os.length := ⟨_, rfl⟩
  rw [← hn] at hv0 ⊢ hm
  unfold maxLen at hm
  have HN := Lib.hid hn
  have HV := Lib.hid hv0
  have HA := Lib.hid (kawake_any W0)
  have HW0 := Lib.hid hW0
  have HPP := Lib.hid hP
  have hPs : P + 2 = W0.heap.size := by omega
  have HPS := Lib.hid hPs
  have A00 := Lib.hid (And.intro a0 a1)
  clear hto hv hv0 hn hb0 hs0 hA0 hN0 hW0 hPs
  go_enter Tryz.func3, Tryz.ntmps3
  go_upto_region 1 with fail
  rw [← HW0.out, ← HPP.out]
  clear hP
  go_wp2_with fail
  refine HA.out.mono ?_
  rintro e w1 ⟨rfl, hc1⟩
  have a0 := hc1.cell a0 (fun x => x)
  have a1 := hc1.cell a1 (fun x => x)
  have b0 := hc1.cell b0 (fun x => x)
  have b1 := hc1.cell b1 (fun x => x)
  have HC1 := Lib.hid hc1
  clear hc1
  go_upto_region 3 with fail
  go_quiet (fail)
  have a0 : (w1.drewN nq).cell? ⟨P, 0, none⟩ = some (.string at_) := a0
  have a1 : (w1.drewN nq).cell? ⟨P, 1, none⟩ = some (.string ak) := a1
  have HC2 := Lib.hid (HC1.out.drewN nq)
  generalize w1.drewN nq = w2 at a0 a1 HC2 ⊢
  clear b0 b1
  by_cases h100 : (100 : Int) < (n : Int)
  · go_wp2_with fail
    go_ret
    exact ⟨rfl, HTO.out _ HC2.out⟩
  by_cases hk1 : (100 : Int) < (ak.size : Int)
  · go_wp2_with fail
    go_ret
    exact ⟨rfl, HTO.out _ HC2.out⟩
  by_cases ht1 : (100 : Int) < (at_.size : Int)
  · go_wp2_with fail
    go_ret
    exact ⟨rfl, HTO.out _ HC2.out⟩
  have hn100 : n ≤ 100 := by omega
  have HD := Lib.hid (new_any 1048576 w2)
  have HA0 := Lib.hid (And.intro a0 a1)
  go_wp2_with (go_at_call 7; refine HD.out.mono ?_; rintro e w3 ⟨rfl, hd3, hb3⟩; have HX := Lib.hid (adsI_new HC2.out hd3 hb3); have HB3 := Lib.hid hb3; clear hd3 hb3 a0 a1)
  refine HX.out.mono ?_
  rintro e w4 ⟨xb, rfl, h4⟩
  have HF4 : Hid (FndI W0 w4 xb 3 (os.take 0) w4.heap.size (.slice none 0 0)) := Lib.hid (by
    obtain ⟨g, st, h5, h6⟩ := h4
    rw [List.take_zero]
    exact ⟨⟨g, st, h5, h6, fun q hq => by cases hq⟩, World.ownsRow_nil _ _ _ _, h5.disk.chg.size, Nat.le_refl _⟩)
  have HC4 := Lib.hid h4.chg
  obtain ⟨base, hbase⟩ : ∃ b, b = w4.heap.size := ⟨_, rfl⟩
  rw [← hbase] at HF4
  have HBASE := Lib.hid hbase
  clear h4 hbase
  go_wp2_with fail
  go_loopw [11, 52] (fun va i wr => ∃ (k : Nat) (vv : Value), k ≤ n ∧ va = vv ∧ i = .int .i64 (k : Int) ∧ Hid (FndI W0 wr xb (3 + 2 * k) (os.take k) base vv) ∧ Hid (∀ x ∈ os.take k, x.t.size ≤ 100 ∧ x.k.size ≤ 100)) (fun _ i _ => n - (intOf i).toNat)
  case atStart => exact ⟨0, _, Nat.zero_le _, rfl, rfl, HF4, Lib.hid (fun x hx => by rw [List.take_zero] at hx; cases hx)⟩
  case round =>
    obtain ⟨k, vv, hk, hvv, rfl, HI, HSZ⟩ := hrel
    have hvv := hvv.symm
    subst hvv
    by_cases hlt : k < n
    · obtain ⟨x, hx⟩ : ∃ x, os[k]? = some x := ⟨_, List.getElem?_eq_getElem (by rw [← HN.out]; exact hlt)⟩
      obtain ⟨b, o, rfl, c0, c1, c2, c3⟩ := ads_cells HV.out HI.out.chg hx
      have htk := take_snoc_at hx
      obtain ⟨xt, xk, xx, xy⟩ := x
      dsimp only at c0 c1 c2 c3
      obtain ⟨W4, hW4⟩ : ∃ W, W = wr.alloc (.cells #[.string xt, .string xk, .int .i64 xx, .int .i64 xy] 24) := ⟨_, rfl⟩
      have hc4 : Chg (fun _ => False) wr W4 := hW4 ▸ Chg.alloc _ (Chg.refl _ _) _
      have e0 : W4.cell? ⟨wr.heap.size, 0, none⟩ = some (.string xt) := by rw [hW4]; simp
      have e1 : W4.cell? ⟨wr.heap.size, 1, none⟩ = some (.string xk) := by rw [hW4]; simp
      have e2 : W4.cell? ⟨wr.heap.size, 2, none⟩ = some (.int .i64 xx) := by rw [hW4]; simp
      have e3 : W4.cell? ⟨wr.heap.size, 3, none⟩ = some (.int .i64 xy) := by rw [hW4]; simp
      have HW4 := Lib.hid hW4
      have HC4' := Lib.hid (HI.out.chg.trans hc4 (fun _ _ x => x))
      by_cases hs1 : (100 : Int) < (xk.size : Int)
      · clear hW4 htk hx
        go_upto_region 13 with fail
        rw [← HW4.out]
        go_wp2_with fail
        go_ret
        exact ⟨rfl, HTO.out _ HC4'.out⟩
      by_cases hs2 : (100 : Int) < (xt.size : Int)
      · clear hW4 htk hx
        go_upto_region 13 with fail
        rw [← HW4.out]
        go_wp2_with fail
        go_ret
        exact ⟨rfl, HTO.out _ HC4'.out⟩
      have hrl : (rF (os.take k)).length ≤ 10000 := by have := rF_len os k; omega
      have hADD := HI.out.add hc4 (by omega) hrl ⟨xt, xk, xx, xy⟩ (by show xt.size ≤ _; omega) (by show xk.size ≤ _; omega)
      rw [← htk] at hADD
      have HS5 : Hid (∀ x ∈ os.take (k + 1), x.t.size ≤ 100 ∧ x.k.size ≤ 100) := Lib.hid (fun x hx => by
        rw [htk] at hx
        rcases List.mem_append.1 hx with hx | hx
        · exact HSZ.out x hx
        · obtain rfl := List.mem_singleton.1 hx
          exact ⟨by show xt.size ≤ _; omega, by show xk.size ≤ _; omega⟩)
      obtain ⟨acc, hacc⟩ : ∃ acc, acc = accF (os.take k) := ⟨_, rfl⟩
      obtain ⟨al, hal⟩ : ∃ al, al = acc.length := ⟨_, rfl⟩
      have halk : al ≤ 100 := by
        have h1 : acc.length ≤ (os.take k).length := by rw [hacc]; exact List.length_filter_le _ _
        rw [List.length_take] at h1
        omega
      simp only [← hacc, ← hal] at hADD
      have HCL := Lib.hid hacc
      have HADE : Hid (∀ E, addE xt xk xx xy = E → E ≠ 0 → Calls Tryz.prog 10 #[.pointer (some ⟨xb, 0, none⟩), .string xt, .string xk, .int .i64 xx, .int .i64 xy] W4 fun e w' => e = .returned (.int .i64 E) ∧ FndI W0 w' xb (3 + 2 * (k + 1)) (os.take (k + 1)) base vv) := Lib.hid (fun E hE hE0 => by
        refine hADD.mono ?_
        rintro e w' ⟨rfl, h1, _⟩
        rw [hE]
        exact ⟨rfl, h1 (by unfold adOk; dsimp only; rw [hE]; exact decide_eq_false hE0)⟩)
      have HADO : Hid (addE xt xk xx xy = 0 → Calls Tryz.prog 10 #[.pointer (some ⟨xb, 0, none⟩), .string xt, .string xk, .int .i64 xx, .int .i64 xy] W4 fun e w' => e = .returned (.int .i64 0) ∧ w'.ownsRow base 24 4 vv al (acc.flatMap adC) ∧ Chg (fun q => q < wr.heap.size ∧ vv.ownBlock ≠ some q) W4 w' ∧
          (∀ w2 q2 c2 cs, (w'.alloc cs).grownBy w2 vv.ownBlock → w2.ownsRow base 24 4 (.slice (some ⟨q2, 0, none⟩) (al + 1) c2) (al + 1) (acc.flatMap adC ++ adC ⟨xt, xk, xx, xy⟩) → (vv.ownBlock = some q2 ∨ w'.heap.size ≤ q2) → FndI W0 w2 xb (3 + 2 * (k + 1)) (os.take (k + 1)) base (.slice (some ⟨q2, 0, none⟩) (al + 1) c2)) ∧ base ≤ w'.heap.size) := Lib.hid (fun hE => by
        refine hADD.mono ?_
        rintro e w' ⟨rfl, _, h1, h2, h3, h4⟩
        rw [hE]
        exact ⟨rfl, h2, h3, h1 (by unfold adOk; dsimp only; rw [hE]; rfl), h4⟩)
      have HTR := fun W => Lib.hid (refTopic_any xt W (by unfold maxLen; omega))
      have HKR := fun W => Lib.hid (refKey_any xk W (by unfold maxLen; omega))
      obtain ⟨aa, ac, hva⟩ := ownr_form HI.out.own
      rw [← hacc, ← hal] at hva
      subst hva
      clear hADD hW4 htk hx hacc hrl hc4 HSZ HI hal
      by_cases htb : topicB xt = true
      · rw [htb] at HTR
        by_cases hkb : keyB xk = true
        · rw [hkb] at HKR
          by_cases hx0 : xx < 0
          · have HAD := Lib.hid (HADE.out 1 (by unfold addE; rw [htb, hkb]; simp; omega) (by decide))
            clear htb
            go_upto_region 13 with fail
            rw [← HW4.out]
            go_wp2_with (first
                        | (go_at_call 8; refine (HTR _).out.mono ?_; rintro e w8 ⟨rfl, rfl⟩)
                        | (go_at_call 9; refine (HKR _).out.mono ?_; rintro e w8 ⟨rfl, rfl⟩)
                        | (go_at_call 10; refine HAD.out.mono ?_; rintro e w5 ⟨rfl, h5⟩; have H5 := Lib.hid h5; clear h5))
            exact ⟨⟨k + 1, _, by omega, rfl, by go_num, H5, HS5⟩, by simp [intOf]; omega⟩
          by_cases hx1 : (1099511627776 : Int) < xx
          · have HAD := Lib.hid (HADE.out 1 (by unfold addE; rw [htb, hkb]; simp; omega) (by decide))
            clear htb
            go_upto_region 13 with fail
            rw [← HW4.out]
            go_wp2_with (first
                        | (go_at_call 8; refine (HTR _).out.mono ?_; rintro e w8 ⟨rfl, rfl⟩)
                        | (go_at_call 9; refine (HKR _).out.mono ?_; rintro e w8 ⟨rfl, rfl⟩)
                        | (go_at_call 10; refine HAD.out.mono ?_; rintro e w5 ⟨rfl, h5⟩; have H5 := Lib.hid h5; clear h5))
            exact ⟨⟨k + 1, _, by omega, rfl, by go_num, H5, HS5⟩, by simp [intOf]; omega⟩
          by_cases hy0 : xy < 0
          · have HAD := Lib.hid (HADE.out 1 (by unfold addE; rw [htb, hkb]; simp; omega) (by decide))
            clear htb
            go_upto_region 13 with fail
            rw [← HW4.out]
            go_wp2_with (first
                        | (go_at_call 8; refine (HTR _).out.mono ?_; rintro e w8 ⟨rfl, rfl⟩)
                        | (go_at_call 9; refine (HKR _).out.mono ?_; rintro e w8 ⟨rfl, rfl⟩)
                        | (go_at_call 10; refine HAD.out.mono ?_; rintro e w5 ⟨rfl, h5⟩; have H5 := Lib.hid h5; clear h5))
            exact ⟨⟨k + 1, _, by omega, rfl, by go_num, H5, HS5⟩, by simp [intOf]; omega⟩
          by_cases hy1 : (1099511627776 : Int) < xy
          · have HAD := Lib.hid (HADE.out 1 (by unfold addE; rw [htb, hkb]; simp; omega) (by decide))
            clear htb
            go_upto_region 13 with fail
            rw [← HW4.out]
            go_wp2_with (first
                        | (go_at_call 8; refine (HTR _).out.mono ?_; rintro e w8 ⟨rfl, rfl⟩)
                        | (go_at_call 9; refine (HKR _).out.mono ?_; rintro e w8 ⟨rfl, rfl⟩)
                        | (go_at_call 10; refine HAD.out.mono ?_; rintro e w5 ⟨rfl, h5⟩; have H5 := Lib.hid h5; clear h5))
            exact ⟨⟨k + 1, _, by omega, rfl, by go_num, H5, HS5⟩, by simp [intOf]; omega⟩
          have hE : addE xt xk xx xy = 0 := by unfold addE; rw [htb, hkb]; simp; omega
          have HAD := Lib.hid (HADO.out hE)
          have g1 : ¬ xx < 0 := hx0
          have g2 : ¬ (1099511627776 : Int) < xx := hx1
          have g3 : ¬ xy < 0 := hy0
          have g4 : ¬ (1099511627776 : Int) < xy := hy1
          obtain ⟨i0, hi, hz0, hz1, hz2⟩ := info_parts info_ad
          clear hE htb hkb
          go_upto_region 13 with fail
          rw [← HW4.out]
          go_wp2_with (first
                      | (go_at_call 8; refine (HTR _).out.mono ?_; rintro e w8 ⟨rfl, rfl⟩)
                      | (go_at_call 9; refine (HKR _).out.mono ?_; rintro e w8 ⟨rfl, rfl⟩)
                      | (go_at_call 10; refine HAD.out.mono ?_; rintro e w5 ⟨rfl, ho5, hc5, hst5, hb5⟩; have e0 := hc5.cell (p := ⟨wr.heap.size, 0, none⟩) e0 (fun hx => Nat.lt_irrefl _ hx.1); have e1 := hc5.cell (p := ⟨wr.heap.size, 1, none⟩) e1 (fun hx => Nat.lt_irrefl _ hx.1); have e2 := hc5.cell (p := ⟨wr.heap.size, 2, none⟩) e2 (fun hx => Nat.lt_irrefl _ hx.1); have e3 := hc5.cell (p := ⟨wr.heap.size, 3, none⟩) e3 (fun hx => Nat.lt_irrefl _ hx.1); have HO5 := Lib.hid ho5; have HST5 := Lib.hid hst5; clear ho5 hst5 hc5)
                      | (at_builtin; have hq5 := HO5.out; go_must (refine wpList_append_lies _ rfl (.tmp 110) (.tmp 112) 22 rfl base 24 i0 _ 4 48 Tryz.underlying22 hi hz0 hz1 hz2 rfl (by decide) _ al (acc.flatMap adC) rfl (World.ownsRow.alloc HO5.out _) ⟨w5.heap.size, 0, none⟩ 1 1 (adC ⟨xt, xk, xx, xy⟩) rfl rfl ?d1 (adC_one _) (by decide) ?d3 ?d4 ?d5 _ rfl ?d6)))
          case d1 => exact World.news_of_block (cs := #[.string xt, .string xk, .int .i64 xx, .int .i64 xy]) (t := 24) (fr := (0, 0)) (heap_alloc_new _ _)
          case d3 => unfold maxLen; omega
          case d4 => omega
          case d5 => simp; omega
          case d6 =>
            intro g9 c9 w9 hown9 hgrow9 hg9 _
            have h9 := HST5.out w9 g9 c9 (.cells #[.string xt, .string xk, .int .i64 xx, .int .i64 xy] 24) hgrow9 hown9 (hg9.imp id (fun h => by rw [h]; simp))
            have H9 := Lib.hid h9
            clear h9 hown9 hgrow9 hg9
            go_wp2_with fail
            exact ⟨⟨k + 1, _, by omega, rfl, by go_num, H9, HS5⟩, by simp [intOf]; omega⟩
        · simp only [Bool.not_eq_true] at hkb
          rw [hkb] at HKR
          have HAD := Lib.hid (HADE.out 11 (by unfold addE; rw [htb, hkb]; simp) (by decide))
          clear htb
          go_upto_region 13 with fail
          rw [← HW4.out]
          go_wp2_with (first
                      | (go_at_call 8; refine (HTR _).out.mono ?_; rintro e w8 ⟨rfl, rfl⟩)
                      | (go_at_call 9; refine (HKR _).out.mono ?_; rintro e w8 ⟨rfl, rfl⟩)
                      | (go_at_call 10; refine HAD.out.mono ?_; rintro e w5 ⟨rfl, h5⟩; have H5 := Lib.hid h5; clear h5))
          exact ⟨⟨k + 1, _, by omega, rfl, by go_num, H5, HS5⟩, by simp [intOf]; omega⟩
      · simp only [Bool.not_eq_true] at htb
        rw [htb] at HTR
        have HAD := Lib.hid (HADE.out 11 (by unfold addE; rw [htb]; simp) (by decide))
        clear htb
        go_upto_region 13 with fail
        rw [← HW4.out]
        go_wp2_with (first
                    | (go_at_call 8; refine (HTR _).out.mono ?_; rintro e w8 ⟨rfl, rfl⟩)
                    | (go_at_call 9; refine (HKR _).out.mono ?_; rintro e w8 ⟨rfl, rfl⟩)
                    | (go_at_call 10; refine HAD.out.mono ?_; rintro e w5 ⟨rfl, h5⟩; have H5 := Lib.hid h5; clear h5))
        exact ⟨⟨k + 1, _, by omega, rfl, by go_num, H5, HS5⟩, by simp [intOf]; omega⟩
    · obtain rfl : k = n := by omega
      clear hlt hk
      have htk : os.take k = os := List.take_of_length_le (by rw [← HN.out]; omega)
      have hI := HI.out
      rw [htk] at hI
      have hsz := HSZ.out
      rw [htk] at hsz
      obtain ⟨g, st, hX, _, hvo⟩ := hI.idx
      have hrF := rF_acc os k
      rw [htk] at hrF
      have hrl0 := rF_len os k
      rw [htk] at hrl0
      have hAo := hI.own
      have hAok : ∀ (i : Nat) (x : AdM), (accF os)[i]? = some x → 0 ≤ x.x ∧ x.t.size ≤ 100 ∧ x.k.size ≤ 100 := fun i x hi => by
        obtain ⟨h1, h2⟩ := acc_ok (List.mem_of_getElem? hi)
        exact ⟨h1, (hsz x h2).1, (hsz x h2).2⟩
      obtain ⟨A, hA⟩ : ∃ A, A = accF os := ⟨_, rfl⟩
      obtain ⟨R, hR⟩ : ∃ R, R = rF os := ⟨_, rfl⟩
      rw [← hA] at hrF hAo hAok
      rw [← hR] at hrF hX hrl0
      obtain ⟨cnt, hcnt⟩ : ∃ cnt, cnt = A.length := ⟨_, rfl⟩
      have hRC : cnt = R.length := by rw [hrF, hcnt]; simp
      rw [← hcnt] at hAo
      have hc100 : cnt ≤ 100 := by omega
      obtain ⟨aa, ac, hva⟩ := ownr_form hAo
      subst hva
      obtain ⟨h0, hh0⟩ : ∃ h0, h0 = numK at_ ak := ⟨_, rfl⟩
      obtain ⟨Z, hZ⟩ : ∃ Z, Z = findL h0 n0 n1 R := ⟨_, rfl⟩
      have HFZ : Hid (findL (numK at_ ak) n0 n1 R = Z) := Lib.hid (by rw [hZ, hh0])
      have HZ0 : Hid (lawG h0 n0 n1 (((A.take cnt).map toKE).reverse) [] = Z) := Lib.hid (by
        rw [hcnt, List.take_length, ← hrF, lawG_find, hZ]
        rfl)
      have HLN := fun W => Lib.hid (lawNum_any at_ ak W (by omega) (by omega))
      rw [← hh0] at HLN
      have hh0l : (h0 : Int) < 4294967296 := by have := numK_lt at_ ak; omega
      obtain ⟨wB, hwB⟩ : ∃ wB, wB = wr := ⟨_, rfl⟩
      rw [← hwB] at hX hAo
      have a0 : wB.cell? ⟨P, 0, none⟩ = some (.string at_) := by
        have h1 : W0.cell? ⟨P, 0, none⟩ = some (.string at_) := A00.out.1
        exact hX.disk.chg.cell h1 (fun x => x)
      have a1 : wB.cell? ⟨P, 1, none⟩ = some (.string ak) := by
        have h1 : W0.cell? ⟨P, 1, none⟩ = some (.string ak) := A00.out.2
        exact hX.disk.chg.cell h1 (fun x => x)
      have hPB : P < wB.heap.size := by have := HPS.out; have := hX.disk.chg.size; omega
      have HX := Lib.hid hX
      have HAO := Lib.hid hAo
      have HAOK := Lib.hid hAok
      have HRC := Lib.hid hRC
      have HCNT := Lib.hid hcnt
      have HHH := Lib.hid hh0
      have HWB := Lib.hid hwB
      have hw2 : IntKind.i64.wrap ((cnt : Int) - 1) = (cnt : Int) - 1 := IntWalk.i64_in _ (by omega)
      have hmd0 : ((h0 : Int).tmod 8) = ((h0 % 8 : Nat) : Int) := by rw [Int.tmod_eq_emod_of_nonneg (by omega)]; omega
      obtain ⟨m0, hm0⟩ : ∃ m0 : Int, m0 = ((h0 % 8 : Nat) : Int) := ⟨_, rfl⟩
      rw [← hm0] at hmd0
      have HM0 := Lib.hid hm0
      have hRl : R.length ≤ 100000 := by omega
      clear hm0
      clear HI HSZ hI hsz hX hvo hrF hrl0 hAo hAok hA hR hRC hcnt hZ hh0 htk
      rw [← HWB.out]
      clear hwB
      go_wp2_with fail
      refine (HLN _).out.mono ?_
      rintro e w5 ⟨rfl, rfl⟩
      go_wp2_with fail
      go_loopw [16, 17, 18, 19] (fun wv iv _ _ wr2 => FndL h0 n0 n1 A Z cnt wB wv iv wr2) (fun _ iv _ _ _ => msr iv)
      case atStart => exact ⟨cnt, [], _, Nat.le_refl _, rfl, rfl, HZ0.out, by simp, World.ownsRow_nil _ _ _ _, Chg.refl _ _⟩
      case round =>
        obtain ⟨j, l, iz, hj, rfl, hIZ, hG', hLJ', hOr', hCr'⟩ := hrel
        have HIZ := Lib.hid hIZ
        have HG := Lib.hid hG'
        have HLJ := Lib.hid hLJ'
        have HOr := Lib.hid hOr'
        have HCr := Lib.hid hCr'
        clear hIZ hG' hLJ' hOr' hCr'
        obtain ⟨va2, vc2, hvv⟩ := ownr_form HOr.out
        subst hvv
        by_cases hj0 : j = 0
        · have hiz : decide (0 ≤ iz) = false := decide_eq_false (by have := HIZ.out; omega)
          have hlz : l = Z := by have := HG.out; rw [hj0, List.take_zero] at this; exact this
          clear hj0
          subst hlz
          have HFD := Lib.hid (kfind_any (HX.out.later HCr.out) (by omega) at_ ak (by unfold maxLen; omega) (by unfold maxLen; omega) n0 n1)
          rw [HFZ.out] at HFD
          have HLE := Lib.hid (fun W (hW : Chg (fun q => wB.heap.size ≤ q) wB W) => klen_any (HX.out.later hW))
          have a0 := HCr.out.cell a0 (by show ¬ (wB.heap.size ≤ P); omega)
          have a1 := HCr.out.cell a1 (by show ¬ (wB.heap.size ≤ P); omega)
          go_wp2_with fail
          refine HFD.out.mono ?_
          rintro e w6 ⟨v6, rfl, ho6, hc6⟩
          obtain ⟨a6, c6, hv6⟩ := ints_form (ints_of_row ho6)
          have HI := Lib.hid (ints_any v6 (.slice va2 l.length vc2) l l w6 (ints_of_row ho6) (ints_of_row (hc6.row HOr.out (fun _ _ x => x))) (by have := HLJ.out; omega))
          subst hv6
          have HC6 := Lib.hid (wide_no HCr.out hc6)
          clear ho6 hc6
          go_wp2_with fail
          refine HI.out.mono ?_
          rintro e w7 ⟨rfl, y7, rfl⟩
          have HL7 := Lib.hid (HLE.out _ (wide_no HC6.out ((Chg.refl (fun _ => False) w6).drewN y7)))
          rw [← HRC.out] at HL7
          go_wp2_with fail
          refine HL7.out.mono ?_
          rintro e w8 ⟨rfl, rfl⟩
          go_wp2_with fail
          go_ret
          exact ⟨by simp, HTO.out _ ((HX.out.later (wide_no HC6.out ((Chg.refl (fun _ => False) w6).drewN y7))).disk.chg)⟩
        by_cases hmo : n1 ≤ (l.length : Int)
        · have hiz : 0 ≤ iz := by have := HIZ.out; omega
          have hmo2 : decide ((l.length : Int) < n1) = false := decide_eq_false (by omega)
          have hlz : l = Z := by have := HG.out; rwa [lawG_find, along_full h0 n0 n1 _ _ l hmo] at this
          clear hj0
          subst hlz
          have HFD := Lib.hid (kfind_any (HX.out.later HCr.out) (by omega) at_ ak (by unfold maxLen; omega) (by unfold maxLen; omega) n0 n1)
          rw [HFZ.out] at HFD
          have HLE := Lib.hid (fun W (hW : Chg (fun q => wB.heap.size ≤ q) wB W) => klen_any (HX.out.later hW))
          have a0 := HCr.out.cell a0 (by show ¬ (wB.heap.size ≤ P); omega)
          have a1 := HCr.out.cell a1 (by show ¬ (wB.heap.size ≤ P); omega)
          go_wp2_with fail
          refine HFD.out.mono ?_
          rintro e w6 ⟨v6, rfl, ho6, hc6⟩
          obtain ⟨a6, c6, hv6⟩ := ints_form (ints_of_row ho6)
          have HI := Lib.hid (ints_any v6 (.slice va2 l.length vc2) l l w6 (ints_of_row ho6) (ints_of_row (hc6.row HOr.out (fun _ _ x => x))) (by have := HLJ.out; omega))
          subst hv6
          have HC6 := Lib.hid (wide_no HCr.out hc6)
          clear ho6 hc6
          go_wp2_with fail
          refine HI.out.mono ?_
          rintro e w7 ⟨rfl, y7, rfl⟩
          have HL7 := Lib.hid (HLE.out _ (wide_no HC6.out ((Chg.refl (fun _ => False) w6).drewN y7)))
          rw [← HRC.out] at HL7
          go_wp2_with fail
          refine HL7.out.mono ?_
          rintro e w8 ⟨rfl, rfl⟩
          go_wp2_with fail
          go_ret
          exact ⟨by simp, HTO.out _ ((HX.out.later (wide_no HC6.out ((Chg.refl (fun _ => False) w6).drewN y7))).disk.chg)⟩
        obtain ⟨j', rfl⟩ : ∃ j', j = j' + 1 := ⟨j - 1, by omega⟩
        have hiz0 := HIZ.out
        obtain rfl : iz = (j' : Int) := by omega
        obtain ⟨x, hx⟩ : ∃ x, A[j']? = some x := ⟨_, List.getElem?_eq_getElem (by rw [← HCNT.out]; omega)⟩
        obtain ⟨x0, xs1, xs2⟩ := HAOK.out j' x hx
        have hro : wr.ownsRow base 24 4 (.slice aa cnt ac) A.length (A.flatMap adC) := by
          rw [← HCNT.out]
          exact HCr.out.row HAO.out (fun q hq hx => by have := (HAO.out.lt q hq).2; omega)
        obtain ⟨q, cap2, hv2, c0, c1, c2, c3⟩ := own_ad hro hx
        injection hv2 with hv2 hv3 hv4
        subst hv2 hv4
        clear hv3
        have hG := HG.out
        rw [take_snoc_at hx, List.map_append, List.reverse_append] at hG
        replace hG : lawG h0 n0 n1 (toKE x :: ((A.take j').map toKE).reverse) l = Z := hG
        have hLN := fun W => lawNum_any x.t x.k W (by omega) (by omega)
        obtain ⟨xt, xk, xx, xy⟩ := x
        dsimp only at x0 xs1 xs2 c0 c1 c2 c3 hLN
        obtain ⟨kk, hkk⟩ : ∃ kk, kk = numK xt xk := ⟨_, rfl⟩
        have hkl : (kk : Int) < 4294967296 := by have := numK_lt xt xk; omega
        rw [show toKE ⟨xt, xk, xx, xy⟩ = ⟨kk, xx.toNat, xy.toNat⟩ from by unfold toKE; rw [hkk], lawG, if_neg hmo] at hG
        dsimp only at hG
        rw [← hkk] at hLN
        simp only [show ((xx.toNat : Nat) : Int) = xx by omega] at hG
        have HLK := fun W => Lib.hid (hLN W)
        have hmdk : ((kk : Int).tmod 8) = ((kk % 8 : Nat) : Int) := by rw [Int.tmod_eq_emod_of_nonneg (by omega)]; omega
        obtain ⟨mk, hmk⟩ : ∃ mk : Int, mk = ((kk % 8 : Nat) : Int) := ⟨_, rfl⟩
        rw [← hmk] at hmdk
        obtain ⟨W6, hW6⟩ : ∃ W, W = wr.alloc (.cells #[.string xt, .string xk, .int .i64 xx, .int .i64 xy] 24) := ⟨_, rfl⟩
        have hc6 : Chg (fun _ => False) wr W6 := hW6 ▸ Chg.alloc _ (Chg.refl _ _) _
        have e0 : W6.cell? ⟨wr.heap.size, 0, none⟩ = some (.string xt) := by rw [hW6]; simp
        have e1 : W6.cell? ⟨wr.heap.size, 1, none⟩ = some (.string xk) := by rw [hW6]; simp
        have e2 : W6.cell? ⟨wr.heap.size, 2, none⟩ = some (.int .i64 xx) := by rw [hW6]; simp
        have HW6 := Lib.hid hW6
        have HCr := Lib.hid (wide_no HCr.out hc6)
        have HOr := Lib.hid (hc6.row HOr.out (fun _ _ x => x))
        have hw3 : IntKind.i64.wrap ((j' : Int) - 1) = (j' : Int) - 1 := IntWalk.i64_in _ (by omega)
        have hlt1 : (l.length : Int) < n1 := by omega
        have hsB : wB.heap.size ≤ W6.heap.size := HCr.out.size
        have hge0 : (0 : Int) ≤ (j' : Int) := by omega
        clear hro hx hLN hkk hW6 hc6 hmo hiz0 HG HIZ
        by_cases c8 : kk % 8 = h0 % 8
        · rw [if_pos c8] at hG
          have c8i : mk = m0 := by have := HM0.out; omega
          subst c8i
          clear hmk c8
          by_cases cA : xx < n0
          · rw [if_pos cA] at hG
            have HZC : Hid (l = Z) := Lib.hid hG
            clear hG
            go_upto_region 31 with fail
            rw [← HW6.out]
            go_upto_region 32 with (go_at_call 11; refine (HLK _).out.mono ?_; rintro e w8 ⟨rfl, rfl⟩)
            go_upto_region 33 with fail
            go_upto_region 36 with fail
            have hlz : l = Z := HZC.out
            clear hj0
            subst hlz
            have HFD := Lib.hid (kfind_any (HX.out.later HCr.out) (by omega) at_ ak (by unfold maxLen; omega) (by unfold maxLen; omega) n0 n1)
            rw [HFZ.out] at HFD
            have HLE := Lib.hid (fun W (hW : Chg (fun q => wB.heap.size ≤ q) wB W) => klen_any (HX.out.later hW))
            have a0 := HCr.out.cell a0 (by show ¬ (wB.heap.size ≤ P); omega)
            have a1 := HCr.out.cell a1 (by show ¬ (wB.heap.size ≤ P); omega)
            go_wp2_with fail
            refine HFD.out.mono ?_
            rintro e w6 ⟨v6, rfl, ho6, hc6⟩
            obtain ⟨a6, c6, hv6⟩ := ints_form (ints_of_row ho6)
            have HI := Lib.hid (ints_any v6 (.slice va2 l.length vc2) l l w6 (ints_of_row ho6) (ints_of_row (hc6.row HOr.out (fun _ _ x => x))) (by have := HLJ.out; omega))
            subst hv6
            have HC6 := Lib.hid (wide_no HCr.out hc6)
            clear ho6 hc6
            go_wp2_with fail
            refine HI.out.mono ?_
            rintro e w7 ⟨rfl, y7, rfl⟩
            have HL7 := Lib.hid (HLE.out _ (wide_no HC6.out ((Chg.refl (fun _ => False) w6).drewN y7)))
            rw [← HRC.out] at HL7
            go_wp2_with fail
            refine HL7.out.mono ?_
            rintro e w8 ⟨rfl, rfl⟩
            go_wp2_with fail
            go_ret
            exact ⟨by simp, HTO.out _ ((HX.out.later (wide_no HC6.out ((Chg.refl (fun _ => False) w6).drewN y7))).disk.chg)⟩
          · rw [if_neg cA] at hG
            have cAb : decide (xx < n0) = false := decide_eq_false cA
            clear cA
            by_cases cH : kk = h0
            · rw [if_pos cH] at hG
              have HG := Lib.hid hG
              obtain ⟨i0, hi, hz0, hz1, hz2⟩ := info_parts info_num
              have hll : l.length + 1 ≤ 200 := by have := HLJ.out; omega
              clear hG
              subst cH
              go_upto_region 31 with fail
              rw [← HW6.out]
              go_wp2_with (first
                | (go_at_call 11; refine (HLK _).out.mono ?_; rintro e w8 ⟨rfl, rfl⟩)
                | (at_builtin; refine wpList_append_own _ rfl (.tmp 154) (.tmp 157) 36 rfl wB.heap.size 3 i0 _ 1 8 Tryz.underlying36 hi hz0 hz1 hz2 rfl (by decide) _ l.length (l.map (Value.int .i64)) rfl (World.ownsRow.alloc HOr.out _) ⟨W6.heap.size, 0, none⟩ 1 1 [.int .i64 xx] rfl rfl ?f1 ?f2 ?f3 ?f4 ?f5 ?f6))
              case f1 => exact cell_one_new _ _ _
              case f2 => intro u hu; simp at hu; rw [hu]; rfl
              case f3 => unfold maxLen; omega
              case f4 => omega
              case f5 => simp; omega
              case f6 =>
                intro v' w9 hown9 hgrow9 _
                have hown9' : w9.ownsRow wB.heap.size 3 1 v' (l ++ [xx]).length ((l ++ [xx]).map (Value.int .i64)) := by
                  rw [List.length_append, List.map_append]
                  exact hown9
                have hcg : Chg (fun q => wB.heap.size ≤ q) wB w9 := by
                  have h1 : Chg (fun _ => False) W6 (W6.alloc (.cells #[.int .i64 xx] 3)) := Chg.alloc _ (Chg.refl _ _) _
                  have h2 : Chg (fun q => wB.heap.size ≤ q) (W6.alloc (.cells #[.int .i64 xx] 3)) w9 := Chg.of_grown hgrow9 (fun q hx _ => (HOr.out.lt q hx).1)
                  exact (wide_no HCr.out h1).trans h2 (fun _ _ x => x)
                have HO9 := Lib.hid hown9'
                have HC9 := Lib.hid hcg
                clear hown9 hown9' hcg hgrow9
                go_wp2_with fail
                exact ⟨⟨j', l ++ [xx], _, by omega, rfl, by go_num, HG.out, by rw [List.length_append]; have := HLJ.out; simp; omega, HO9.out, HC9.out⟩, by show ((j' : Int) - 1 + 1).toNat < ((j' : Int) + 1).toNat; omega⟩
            · rw [if_neg cH] at hG
              have HG := Lib.hid hG
              have cHn : ¬ ((kk : Int) = (h0 : Int)) := by omega
              have cHi : ((kk : Int) == (h0 : Int)) = false := by simpa using cHn
              clear hG cH cHn
              go_upto_region 31 with fail
              rw [← HW6.out]
              go_wp2_with (go_at_call 11; refine (HLK _).out.mono ?_; rintro e w8 ⟨rfl, rfl⟩)
              exact ⟨⟨j', l, _, by omega, rfl, by go_num, HG.out, by have := HLJ.out; omega, HOr.out, HCr.out⟩, by show ((j' : Int) - 1 + 1).toNat < ((j' : Int) + 1).toNat; omega⟩
        · rw [if_neg c8] at hG
          have HG := Lib.hid hG
          have c8n : ¬ (mk = m0) := by have := HM0.out; omega
          have c8i : (mk != m0) = true := by simpa using c8n
          clear hG c8 hmk c8n
          go_upto_region 31 with fail
          rw [← HW6.out]
          go_wp2_with (go_at_call 11; refine (HLK _).out.mono ?_; rintro e w8 ⟨rfl, rfl⟩)
          exact ⟨⟨j', l, _, by omega, rfl, by go_num, HG.out, by have := HLJ.out; omega, HOr.out, HCr.out⟩, by show ((j' : Int) - 1 + 1).toNat < ((j' : Int) + 1).toNat; omega⟩
end Go.Proofs.YtmmnoieafndgjaaGreat

