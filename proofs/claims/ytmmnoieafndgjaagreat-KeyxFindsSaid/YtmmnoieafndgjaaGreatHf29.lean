/-
  Part 29: what the statement needs of these texts: KTop, KAwake.
-/
import Derived.BigQuiet
import Derived.BigRegion
import Derived.Deep.OwnRows
import Derived.Deep.QuietTactic
import Derived.Deep.RegionHeld3
import Derived.IntWalk
import Derived.Laws.CopyOwn
import Derived.Laws.OwnMore
import Derived.Laws.RangeAny
import Derived.Lib.AppendStr
import Derived.Lib.AppendZerosOnto
import Derived.Lib.Atoi
import Derived.Lib.AtoiErrMem
import Derived.Lib.BufferRead
import Derived.Lib.BufferWrite
import Derived.Lib.Builder
import Derived.Lib.Hide
import Derived.Lib.IndexMore
import Derived.Lib.ItoaNum
import Derived.Lib.LaidTab
import Derived.Lib.OthersKept
import Derived.Lib.Repeat
import Derived.Lib.Slices
import Derived.Lib.Strings
import Derived.Lib.UnsafeStr
import Derived.Maps.AppendAt
import Derived.Maps.OwnSet
import Derived.Maps.RangeWalk
import Derived.Orders
import Derived.ProofKit
import Derived.Shelf.Slices.In.SortNone
import Derived.Shelf.Small.Wraps
import Derived.Shelf.Sort.Plain
import Derived.Shelf.Strings.Builder1
import Derived.Shelf.Strings.Prefix
import Derived.Shelf.Strings.Repeat
import Derived.Sort.KeysCollected
import Derived.Sort.OwnSorted
import Derived.StillTailTactics
import Derived.StringKeys
import Derived.Test.YtmmnoieafndgjaaGreatProg
import Derived.Test.YtmmnoieafndgjaaGreatRows
import Derived.WalkKit
import Derived.WalkLawsBesides
import Derived.WalkSmall
import Derived.WalkSpells
import Derived.Test.YtmmnoieafndgjaaGreatHf2
import Derived.Test.YtmmnoieafndgjaaGreatHf3
import Derived.Test.YtmmnoieafndgjaaGreatHf4
import Derived.Test.YtmmnoieafndgjaaGreatHf5
import Derived.Test.YtmmnoieafndgjaaGreatHf6
import Derived.Test.YtmmnoieafndgjaaGreatHf7
import Derived.Test.YtmmnoieafndgjaaGreatHf8
import Derived.Test.YtmmnoieafndgjaaGreatHf9
import Derived.Test.YtmmnoieafndgjaaGreatHf10
import Derived.Test.YtmmnoieafndgjaaGreatHf11
import Derived.Test.YtmmnoieafndgjaaGreatHf12
import Derived.Test.YtmmnoieafndgjaaGreatHf14
import Derived.Test.YtmmnoieafndgjaaGreatHf15
import Derived.Test.YtmmnoieafndgjaaGreatHf16
import Derived.Test.YtmmnoieafndgjaaGreatHf17
import Derived.Test.YtmmnoieafndgjaaGreatHf18
import Derived.Test.YtmmnoieafndgjaaGreatHf19
import Derived.Test.YtmmnoieafndgjaaGreatHf20
import Derived.Test.YtmmnoieafndgjaaGreatHf21
import Derived.Test.YtmmnoieafndgjaaGreatHf22
import Derived.Test.YtmmnoieafndgjaaGreatHf23
import Derived.Test.YtmmnoieafndgjaaGreatHf24
import Derived.Test.YtmmnoieafndgjaaGreatHf25
import Derived.Test.YtmmnoieafndgjaaGreatHf26
import Derived.Test.YtmmnoieafndgjaaGreatHf27
import Derived.Test.YtmmnoieafndgjaaGreatHf28
namespace Go.Proofs.YtmmnoieafndgjaaGreat
open Go.RowKit Go.Deep
set_option linter.unusedVariables false
set_option linter.unusedSimpArgs false

def kH : ByteArray := ⟨#[120, 45]⟩
def KNewTo (w0 : World) (c : Int) (w : World) (e : Ending) (w' : World) : Prop := ∃ xb g', e = .returned (.tuple #[.pointer (some ⟨xb, 0, none⟩), .int .i64 0]) ∧ w.heap.size ≤ xb ∧ KxI w0 w' xb g' (kEnd c) 3 []
set_option maxHeartbeats 2000000 in
set_option maxRecDepth 100000 in
theorem knew_any {w0 w : World} {d : Nat} {g : Gh} (c : Int) (h0 : 24 ≤ c) (h1 : c ≤ 16777216) (hd : DiskG w0 w d g (newSt c)) :
    Calls Tryz.prog 6 #[.pointer (some ⟨d, 0, none⟩)] w (KNewTo w0 c w) := by
  obtain ⟨_, _, _, hke, hl, hs, hz, _, _⟩ := kSt_facts c h0 h1
  obtain ⟨W1, hW1⟩ : ∃ W, W = w.alloc (.cells #[.pointer (some ⟨d, 0, none⟩), .int .i64 0] 46) := ⟨_, rfl⟩
  have hb1 : Below w.heap.size w W1 := hW1 ▸ (Below.refl _ _).alloc (Nat.le_refl _) _
  have hsz : W1.heap.size = w.heap.size + 1 := by rw [hW1, World.size_alloc]
  have hx1 : W1.heap[w.heap.size]? = some (.cells #[.pointer (some ⟨d, 0, none⟩), .int .i64 0] 46 (0, 0)) := by rw [hW1]; exact heap_alloc_new w _
  have k0 : W1.cell? ⟨w.heap.size, 0, none⟩ = some (.pointer (some ⟨d, 0, none⟩)) := by simp [World.cell?, hx1]
  have hd1 := hd.new (Chg.of_below hb1)
  have hout : w.heap.size ∉ g.fp := fun hx => Nat.lt_irrefl _ (hd.disk.lt _ hx)
  have hL := list_strs g (newSt c) kH W1 hd1.disk (by show 0 ≤ _; omega)
  have hnil : namesS kH (newSt c) = [] := List.eq_nil_of_length_eq_zero (Nat.le_zero.1 (namesS_length kH (newSt c)))
  rw [hnil, hd.d] at hL
  have HL := Lib.hid hL
  have HB : Hid (∀ (W : World) (a : Option Addr) (cap : Nat), Below W1.heap.size W1 W → Calls Tryz.prog 16 #[.pointer (some ⟨w.heap.size, 0, none⟩), .slice a 0 cap] W fun e w' => e = .returned (.int .i64 0) ∧ ∃ g', KxI w0 w' w.heap.size g' (kEnd c) 3 []) := Lib.hid (fun W a cap hW => by
    have hcW : Chg (fun _ => False) W1 W := Chg.of_below hW
    have hdW := hd1.new hcW
    refine (kbegin_any c h0 h1 w.heap.size g W hdW.disk (by rw [hd.d]; exact hcW.heap hx1 (fun x => x)) hout a cap).mono ?_
    rintro e w' ⟨rfl, g', hd', t⟩
    have hsW := hcW.size
    have hst := t.chg.size
    refine ⟨rfl, g', ⟨⟨hd', rfl, hdW.chg.trans t.chg (fun i hi hx => by have := hd.low i hx; omega), fun q hq => ?_⟩, hke, ?_, hd.chg.size, fun hx => ?_, hl, hs, hz, fun k hk => by cases hk⟩⟩
    · rcases t.fp q hq with a1 | a1
      · exact hd.low q a1
      · have := hd.chg.size; omega
    · rw [t.d, hd.d]
      exact t.chg.heap (hcW.heap hx1 (fun x => x)) hout
    · rcases t.fp _ hx with a1 | a1
      · exact hout a1
      · omega)
  have HW1 := Lib.hid hW1
  clear hke hl hs hz hb1 hx1 hd1 hout hL hnil hd hW1
  go_enter Tryz.func6, Tryz.ntmps6
  go_upto_region 4 with fail
  rw [← HW1.out]
  go_wp2_with fail
  refine HL.out.mono ?_
  rintro e w2 ⟨v, rfl, hs2, hb2⟩
  obtain ⟨a, cap, rfl⟩ := hs2.form
  have HB2 := Lib.hid (HB.out w2 a cap hb2)
  clear hs2 hb2
  go_wp2_with fail
  refine HB2.out.mono ?_
  rintro e w3 ⟨rfl, g3, h3⟩
  have H3 := Lib.hid h3
  clear h3
  go_wp2_with fail
  go_ret2
  exact ⟨_, g3, rfl, Nat.le_refl _, H3.out⟩
/-- What Add answers, and what entries there are then. -/
def addE (t k : ByteArray) (x y : Int) : Int := if topicB t = true ∧ keyB k = true then (if (0 ≤ x ∧ x ≤ 1099511627776) ∧ 0 ≤ y ∧ y ≤ 1099511627776 then 0 else 1) else 11
def addR (R : List KE) (t k : ByteArray) (x y : Int) : List KE := if addE t k x y = 0 then ⟨numK t k, x.toNat, y.toNat⟩ :: R else R
def KPutTo (w0 w : World) (xb : Nat) (g : Gh) (st : St) (n : Nat) (R : List KE) (err : Int) (e : Ending) (w' : World) : Prop :=
  e = .returned (.int .i64 err) ∧ ∃ g' st', KxI w0 w' xb g' st' (n + 2) R ∧ KTo xb w g g' w' ∧ st'.cap = st.cap
theorem Calm_more {n n' : Nat} {st : St} (h : Calm n st) (hn : n ≤ n') : Calm n' st := ⟨h.good.more hn, h.lit, h.down⟩
theorem KxI.more {w0 w : World} {xb : Nat} {g : Gh} {st : St} {n n' : Nat} {R : List KE} (h : KxI w0 w xb g st n R) (hn : n ≤ n') : KxI w0 w xb g st n' R := ⟨h.disk, Calm_more h.calm hn, h.cell, h.low, h.out, h.lnk, h.slt, h.size, h.ok⟩
set_option maxHeartbeats 4000000 in
set_option maxRecDepth 100000 in
theorem kput_any {w0 w : World} {xb : Nat} {g : Gh} {st : St} {n : Nat} {R : List KE} (h : KxI w0 w xb g st n R) (hn : n ≤ 1000000) (hl : R.length ≤ 100000) (hcap : st.size + 20 ≤ st.cap) (t k : ByteArray) (ht : t.size ≤ maxLen) (hk : k.size ≤ maxLen) (x y : Int) :
    Calls Tryz.prog 10 #[.pointer (some ⟨xb, 0, none⟩), .string t, .string k, .int .i64 x, .int .i64 y] w (KPutTo w0 w xb g st n (addR R t k x y) (addE t k x y)) := by
  have HT := fun W => Lib.hid (topic_any t W ht)
  have HKK := fun W => Lib.hid (key_any k W hk)
  have hsame : ∀ w', Chg (fun _ => False) w w' → ∃ g' st', KxI w0 w' xb g' st' (n + 2) R ∧ KTo xb w g g' w' ∧ st'.cap = st.cap := fun w' hc => ⟨g, st, (h.new hc).more (by omega), KTo.new g hc, rfl⟩
  have HS := Lib.hid hsame
  have hAE : addE t k x y = if topicB t = true ∧ keyB k = true then (if (0 ≤ x ∧ x ≤ 1099511627776) ∧ 0 ≤ y ∧ y ≤ 1099511627776 then 0 else 1) else 11 := rfl
  have hAR : addR R t k x y = if addE t k x y = 0 then ⟨numK t k, x.toNat, y.toNat⟩ :: R else R := rfl
  cases ht0 : topicB t with
  | false =>
    rw [ht0] at HT
    rw [if_neg (by rw [ht0]; simp)] at hAE
    rw [hAE, if_neg (by decide)] at hAR
    rw [hAE, hAR]
    clear h hAE hAR hsame
    go_enter Tryz.func10, Tryz.ntmps10
    go_wp2_with fail
    refine (HT _).out.mono ?_
    rintro e w2 ⟨rfl, hb2⟩
    go_wp2_with fail
    go_ret
    exact ⟨rfl, HS.out _ (Chg.of_below hb2)⟩
  | true =>
    rw [ht0] at HT
    cases hk0 : keyB k with
    | false =>
      rw [hk0] at HKK
      rw [if_neg (by rw [hk0]; simp)] at hAE
      rw [hAE, if_neg (by decide)] at hAR
      rw [hAE, hAR]
      clear h hAE hAR hsame
      go_enter Tryz.func10, Tryz.ntmps10
      go_wp2_with fail
      refine (HT _).out.mono ?_
      rintro e w2 ⟨rfl, hb2⟩
      have HB2 := Lib.hid hb2
      clear hb2
      go_wp2_with fail
      refine (HKK _).out.mono ?_
      rintro e w3 ⟨rfl, hb3⟩
      have HB3 := Lib.hid (below_on hb3 HB2.out (Nat.le_refl _))
      clear hb3
      go_wp2_with fail
      go_ret
      exact ⟨rfl, HS.out _ (Chg.of_below HB3.out)⟩
    | true =>
      rw [hk0] at HKK
      rw [if_pos ⟨ht0, hk0⟩] at hAE
      have HRX := fun W => Lib.hid (right_any x W)
      have HRY := fun W => Lib.hid (right_any y W)
      by_cases hx : 0 ≤ x ∧ x ≤ 1099511627776
      · rw [decide_eq_true hx] at HRX
        by_cases hy : 0 ≤ y ∧ y ≤ 1099511627776
        · rw [decide_eq_true hy] at HRY
          rw [if_pos ⟨hx, hy⟩] at hAE
          rw [hAE, if_pos rfl] at hAR
          rw [hAE, hAR]
          clear hAE hAR
          have HN := fun W => Lib.hid (number_any t k W ht hk)
          have hnl := numK_lt t k
          obtain ⟨h0, hh0⟩ : ∃ h0, h0 = numK t k := ⟨_, rfl⟩
          rw [← hh0] at HN hnl ⊢
          have hmod : ((h0 : Int).tmod 8) = ((h0 % 8 : Nat) : Int) := by rw [Int.tmod_eq_emod_of_nonneg (by omega)]; omega
          have hlast : ∀ W, Below w.heap.size w W → Calls Tryz.prog 25 #[.pointer (some ⟨xb, 0, none⟩), .int .i64 ((h0 % 8 : Nat) : Int)] W fun e w' => e = .returned (.tuple #[.int .i64 (lastR R (h0 % 8) : Nat), .int .i64 0]) ∧ Below W.heap.size W w' := fun W hW => last_any (h.new (Chg.of_below hW)) (by omega) (h0 % 8) (Nat.mod_lt _ (by decide))
          have hadd : ∀ W, Below w.heap.size w W → Calls Tryz.prog 26 #[.pointer (some ⟨xb, 0, none⟩), .agg #[.int .i64 (h0 : Int), .int .i64 x, .int .i64 y, .int .i64 (lastR R (h0 % 8) : Nat)]] W (KPutTo w0 w xb g st n (⟨h0, x.toNat, y.toNat⟩ :: R) 0) := fun W hW => by
            have := kadd_any (h.new (Chg.of_below hW)) hn hl ⟨h0, x.toNat, y.toNat⟩ ⟨hnl, by show x.toNat ≤ _; omega, by show y.toNat ≤ _; omega⟩ hcap
            unfold linkV at this
            dsimp only at this
            rw [show ((x.toNat : Nat) : Int) = x by omega, show ((y.toNat : Nat) : Int) = y by omega] at this
            refine this.mono ?_
            rintro e w' ⟨rfl, g', st', a1, a2, a3⟩
            exact ⟨rfl, g', st', a1, (KTo.new g (Chg.of_below hW)).trans a2, a3⟩
          obtain ⟨la, hla⟩ : ∃ la, la = lastR R (h0 % 8) := ⟨_, rfl⟩
          rw [← hla] at hlast hadd
          obtain ⟨bi, hbi⟩ : ∃ bi : Int, bi = ((h0 % 8 : Nat) : Int) := ⟨_, rfl⟩
          rw [← hbi] at hlast hmod
          have HLA := Lib.hid hlast
          have HAD := Lib.hid hadd
          clear h hlast hadd hla hbi hh0 hsame ht0 hk0
          go_enter Tryz.func10, Tryz.ntmps10
          go_wp2_with fail
          refine (HT _).out.mono ?_
          rintro e w2 ⟨rfl, hb2⟩
          have HB2 := Lib.hid hb2
          clear hb2
          go_wp2_with fail
          refine (HKK _).out.mono ?_
          rintro e w3 ⟨rfl, hb3⟩
          have HB3 := Lib.hid (below_on hb3 HB2.out (Nat.le_refl _))
          clear hb3
          go_wp2_with fail
          refine (HRX _).out.mono ?_
          rintro e w4 ⟨rfl, rfl⟩
          go_wp2_with fail
          refine (HRY _).out.mono ?_
          rintro e w4 ⟨rfl, rfl⟩
          go_wp2_with fail
          refine (HN _).out.mono ?_
          rintro e w4 ⟨rfl, hb4⟩
          have HB4 := Lib.hid (below_on hb4 HB3.out (Nat.le_refl _))
          clear hb4
          go_wp2_with fail
          refine (HLA.out _ HB4.out).mono ?_
          rintro e w5 ⟨rfl, hb5⟩
          have HB5 := Lib.hid (below_on hb5 HB4.out (Nat.le_refl _))
          clear hb5
          go_wp2_with fail
          refine (HAD.out _ HB5.out).mono ?_
          rintro e w6 ⟨rfl, h6⟩
          have H6 := Lib.hid h6
          clear h6
          go_wp2_with fail
          go_ret
          exact ⟨rfl, H6.out⟩
        · rw [decide_eq_false hy] at HRY
          rw [if_neg (fun hx' => hy hx'.2)] at hAE
          rw [hAE, if_neg (by decide)] at hAR
          rw [hAE, hAR]
          clear h hAE hAR hsame
          go_enter Tryz.func10, Tryz.ntmps10
          go_wp2_with fail
          refine (HT _).out.mono ?_
          rintro e w2 ⟨rfl, hb2⟩
          have HB2 := Lib.hid hb2
          clear hb2
          go_wp2_with fail
          refine (HKK _).out.mono ?_
          rintro e w3 ⟨rfl, hb3⟩
          have HB3 := Lib.hid (below_on hb3 HB2.out (Nat.le_refl _))
          clear hb3
          go_wp2_with fail
          refine (HRX _).out.mono ?_
          rintro e w4 ⟨rfl, rfl⟩
          go_wp2_with fail
          refine (HRY _).out.mono ?_
          rintro e w4 ⟨rfl, rfl⟩
          go_wp2_with fail
          go_ret
          exact ⟨rfl, HS.out _ (Chg.of_below HB3.out)⟩
      · rw [decide_eq_false hx] at HRX
        rw [if_neg (fun hx' => hx hx'.1)] at hAE
        rw [hAE, if_neg (by decide)] at hAR
        rw [hAE, hAR]
        clear h hAE hAR hsame
        go_enter Tryz.func10, Tryz.ntmps10
        go_wp2_with fail
        refine (HT _).out.mono ?_
        rintro e w2 ⟨rfl, hb2⟩
        have HB2 := Lib.hid hb2
        clear hb2
        go_wp2_with fail
        refine (HKK _).out.mono ?_
        rintro e w3 ⟨rfl, hb3⟩
        have HB3 := Lib.hid (below_on hb3 HB2.out (Nat.le_refl _))
        clear hb3
        go_wp2_with fail
        refine (HRX _).out.mono ?_
        rintro e w4 ⟨rfl, rfl⟩
        go_wp2_with fail
        go_ret
        exact ⟨rfl, HS.out _ (Chg.of_below HB3.out)⟩
end Go.Proofs.YtmmnoieafndgjaaGreat

namespace Go.Proofs.YtmmnoieafndgjaaGreat
open Go.RowKit Go.Deep
set_option linter.unusedVariables false
set_option linter.unusedSimpArgs false

def aT : ByteArray := ⟨#[97]⟩
def kT : ByteArray := ⟨#[107]⟩
theorem knew_first {w0 w w' : World} (hc : Chg (fun _ => False) w0 w) (c : Int) (h0 : 24 ≤ c) (h1 : c ≤ 16777216) (hd : DiskAt w' ⟨w.heap.size, none, []⟩ (newSt c)) (hb : Below w.heap.size w w') : Calls Tryz.prog 6 #[.pointer (some ⟨w.heap.size, 0, none⟩)] w' (KNewTo w0 c w') := by
  have hg : DiskG w0 w' w.heap.size ⟨w.heap.size, none, []⟩ (newSt c) := ⟨hd, rfl, hc.trans (Chg.of_below hb : Chg (fun _ => False) w w') (fun _ _ x => x), fun q hq => by simp [Gh.fp] at hq; rw [hq]; exact hc.size⟩
  exact knew_any c h0 h1 hg
theorem kEnd_cap (c : Int) (h0 : 24 ≤ c) (h1 : c ≤ 16777216) : (kEnd c).cap = c.toNat := (kSt_facts c h0 h1).2.2.2.2.2.2.2.1
theorem ints_two (w : World) (a b : Int) : Ints (w.alloc (.cells #[.int .i64 a, .int .i64 b] 3)) (.slice (some ⟨w.heap.size, 0, none⟩) 2 2) [a, b] :=
  ⟨_, _, rfl, .inr ⟨w.heap.size, 0, rfl, fun i hi => by
    match i, hi with
    | 0, _ => simp
    | 1, _ => simp⟩⟩
set_option maxHeartbeats 2000000 in
set_option maxRecDepth 100000 in
theorem kawake_any (w : World) : Calls Tryz.prog 5 #[] w fun e w' => e = .returned (.bool true) ∧ Chg (fun _ => False) w w' := by
  have HN := Lib.hid (new_any 10000 w)
  go_enter Tryz.func5, Tryz.ntmps5
  go_wp2_with fail
  refine HN.out.mono ?_
  rintro e w1 ⟨rfl, hd1, hb1⟩
  have HQ := Lib.hid (knew_first (Chg.refl _ w) 10000 (by decide) (by decide) hd1 hb1)
  clear hd1 hb1
  go_wp2_with fail
  refine HQ.out.mono ?_
  rintro e w2 ⟨xb, g, rfl, _, h2⟩
  have e1 : addE aT kT 5 0 = 0 := by decide +kernel
  have e2 : addE aT kT 9 0 = 0 := by decide +kernel
  have hcap := kEnd_cap 10000 (by decide) (by decide)
  have hA := kput_any h2 (by decide) (by decide) (by rw [h2.size, hcap]; decide) aT kT (by decide) (by decide) 5 0
  rw [e1, show addR [] aT kT 5 0 = [⟨numK aT kT, 5, 0⟩] from by unfold addR; rw [e1]; rfl] at hA
  have HA := Lib.hid hA
  clear h2 hA
  go_wp2_with fail
  refine HA.out.mono ?_
  rintro e w3 ⟨rfl, g3, st3, h3, t3, c3⟩
  have hB := kput_any h3 (by decide) (by decide) (by rw [h3.size, c3, hcap]; decide) aT kT (by decide) (by decide) 9 0
  rw [e2, show addR [⟨numK aT kT, 5, 0⟩] aT kT 9 0 = [⟨numK aT kT, 9, 0⟩, ⟨numK aT kT, 5, 0⟩] from by unfold addR; rw [e2]; rfl] at hB
  have HB := Lib.hid hB
  clear h3 hB t3 c3
  go_wp2_with fail
  refine HB.out.mono ?_
  rintro e w4 ⟨rfl, g4, st4, h4, t4, c4⟩
  have hF := kfind_any h4 (by decide) aT kT (by decide) (by decide) 0 9
  rw [show findL (numK aT kT) 0 9 [⟨numK aT kT, 9, 0⟩, ⟨numK aT kT, 5, 0⟩] = [9, 5] from by decide +kernel] at hF
  have HF := Lib.hid hF
  have HC4 := Lib.hid h4.disk.chg
  clear h4 hF t4 c4 hcap e1 e2
  go_wp2_with fail
  refine HF.out.mono ?_
  rintro e w5 ⟨v, rfl, ho5, hc5⟩
  obtain ⟨av, cv, hv⟩ := ints_form (ints_of_row ho5)
  subst hv
  have HI := Lib.hid (ints_any _ _ [9, 5] [9, 5] (w5.alloc (.cells #[.int .i64 9, .int .i64 5] 3)) (by
    obtain ⟨a, cap, e1, h1⟩ := ints_of_row ho5
    refine ⟨a, cap, e1, ?_⟩
    rcases h1 with h1 | ⟨b, o, h2, h3⟩
    · exact .inl h1
    · exact .inr ⟨b, o, h2, fun i hi => (Chg.alloc (fun _ => False) (Chg.refl _ w5) _).cell (h3 i hi) (fun x => x)⟩) (ints_two w5 9 5) (by decide))
  have HC5 := Lib.hid hc5
  clear ho5 hc5
  go_wp2_with fail
  refine HI.out.mono ?_
  rintro e w6 ⟨rfl, y, rfl⟩
  go_wp2_with fail
  go_ret
  exact ⟨rfl, ((HC4.out.trans HC5.out (fun _ _ x => x)).trans (Chg.alloc (fun _ => False) (Chg.refl _ w5) _) (fun _ _ x => x)).drewN y⟩
end Go.Proofs.YtmmnoieafndgjaaGreat

