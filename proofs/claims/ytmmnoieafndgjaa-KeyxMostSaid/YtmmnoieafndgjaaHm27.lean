/-
  Part 27: what the statement needs of these texts: KTop, KAwake, KMoP, KAdI.
-/
import Derived.BigQuiet
import Derived.BigRegion
import Derived.Deep.OwnRows
import Derived.Deep.QuietTactic
import Derived.Deep.RegionHeld3
import Derived.IntWalk
import Derived.Laws.CopyOwn
import Derived.Laws.OwnMore
import Derived.Laws.RangeAny
import Derived.Lib.AppendStr
import Derived.Lib.AppendZerosOnto
import Derived.Lib.Atoi
import Derived.Lib.AtoiErrMem
import Derived.Lib.BufferRead
import Derived.Lib.BufferWrite
import Derived.Lib.Builder
import Derived.Lib.Hide
import Derived.Lib.IndexMore
import Derived.Lib.ItoaNum
import Derived.Lib.LaidTab
import Derived.Lib.OthersKept
import Derived.Lib.Repeat
import Derived.Lib.Slices
import Derived.Lib.Strings
import Derived.Lib.UnsafeStr
import Derived.Maps.AppendAt
import Derived.Maps.OwnSet
import Derived.Maps.RangeWalk
import Derived.Orders
import Derived.ProofKit
import Derived.Shelf.Slices.In.SortNone
import Derived.Shelf.Small.Wraps
import Derived.Shelf.Sort.Plain
import Derived.Shelf.Strings.Builder1
import Derived.Shelf.Strings.Prefix
import Derived.Shelf.Strings.Repeat
import Derived.Sort.KeysCollected
import Derived.Sort.OwnSorted
import Derived.StillTailTactics
import Derived.StringKeys
import Derived.Test.YtmmnoieafndgjaaProg
import Derived.Test.YtmmnoieafndgjaaRows
import Derived.WalkKit
import Derived.WalkLawsBesides
import Derived.WalkSmall
import Derived.WalkSpells
import Derived.Test.YtmmnoieafndgjaaHm1
import Derived.Test.YtmmnoieafndgjaaHm2
import Derived.Test.YtmmnoieafndgjaaHm3
import Derived.Test.YtmmnoieafndgjaaHm4
import Derived.Test.YtmmnoieafndgjaaHm5
import Derived.Test.YtmmnoieafndgjaaHm6
import Derived.Test.YtmmnoieafndgjaaHm7
import Derived.Test.YtmmnoieafndgjaaHm8
import Derived.Test.YtmmnoieafndgjaaHm9
import Derived.Test.YtmmnoieafndgjaaHm10
import Derived.Test.YtmmnoieafndgjaaHm11
import Derived.Test.YtmmnoieafndgjaaHm12
import Derived.Test.YtmmnoieafndgjaaHm13
import Derived.Test.YtmmnoieafndgjaaHm14
import Derived.Test.YtmmnoieafndgjaaHm15
import Derived.Test.YtmmnoieafndgjaaHm16
import Derived.Test.YtmmnoieafndgjaaHm17
import Derived.Test.YtmmnoieafndgjaaHm18
import Derived.Test.YtmmnoieafndgjaaHm19
import Derived.Test.YtmmnoieafndgjaaHm20
import Derived.Test.YtmmnoieafndgjaaHm21
import Derived.Test.YtmmnoieafndgjaaHm22
import Derived.Test.YtmmnoieafndgjaaHm23
import Derived.Test.YtmmnoieafndgjaaHm24
import Derived.Test.YtmmnoieafndgjaaHm25
import Derived.Test.YtmmnoieafndgjaaHm26
namespace Go.Proofs.Ytmmnoieafndgjaa
open Go.RowKit Go.Deep
set_option linter.unusedVariables false
set_option linter.unusedSimpArgs false

def kH : ByteArray := ⟨#[120, 45]⟩
def KNewTo (w0 : World) (c : Int) (w : World) (e : Ending) (w' : World) : Prop := ∃ xb g', e = .returned (.tuple #[.pointer (some ⟨xb, 0, none⟩), .int .i64 0]) ∧ w.heap.size ≤ xb ∧ KxI w0 w' xb g' (kEnd c) 3 []
set_option maxHeartbeats 2000000 in
set_option maxRecDepth 100000 in
theorem knew_any {w0 w : World} {d : Nat} {g : Gh} (c : Int) (h0 : 24 ≤ c) (h1 : c ≤ 16777216) (hd : DiskG w0 w d g (newSt c)) :
    Calls Try.prog 5 #[.pointer (some ⟨d, 0, none⟩)] w (KNewTo w0 c w) := by
  obtain ⟨_, _, _, hke, hl, hs, hz, _, _⟩ := kSt_facts c h0 h1
  obtain ⟨W1, hW1⟩ : ∃ W, W = w.alloc (.cells #[.pointer (some ⟨d, 0, none⟩), .int .i64 0] 38) := ⟨_, rfl⟩
  have hb1 : Below w.heap.size w W1 := hW1 ▸ (Below.refl _ _).alloc (Nat.le_refl _) _
  have hsz : W1.heap.size = w.heap.size + 1 := by rw [hW1, World.size_alloc]
  have hx1 : W1.heap[w.heap.size]? = some (.cells #[.pointer (some ⟨d, 0, none⟩), .int .i64 0] 38 (0, 0)) := by rw [hW1]; exact heap_alloc_new w _
  have k0 : W1.cell? ⟨w.heap.size, 0, none⟩ = some (.pointer (some ⟨d, 0, none⟩)) := by simp [World.cell?, hx1]
  have hd1 := hd.new (Chg.of_below hb1)
  have hout : w.heap.size ∉ g.fp := fun hx => Nat.lt_irrefl _ (hd.disk.lt _ hx)
  have hL := list_strs g (newSt c) kH W1 hd1.disk (by show 0 ≤ _; omega)
  have hnil : namesS kH (newSt c) = [] := List.eq_nil_of_length_eq_zero (Nat.le_zero.1 (namesS_length kH (newSt c)))
  rw [hnil, hd.d] at hL
  have HL := Lib.hid hL
  have HB : Hid (∀ (W : World) (a : Option Addr) (cap : Nat), Below W1.heap.size W1 W → Calls Try.prog 10 #[.pointer (some ⟨w.heap.size, 0, none⟩), .slice a 0 cap] W fun e w' => e = .returned (.int .i64 0) ∧ ∃ g', KxI w0 w' w.heap.size g' (kEnd c) 3 []) := Lib.hid (fun W a cap hW => by
    have hcW : Chg (fun _ => False) W1 W := Chg.of_below hW
    have hdW := hd1.new hcW
    refine (kbegin_any c h0 h1 w.heap.size g W hdW.disk (by rw [hd.d]; exact hcW.heap hx1 (fun x => x)) hout a cap).mono ?_
    rintro e w' ⟨rfl, g', hd', t⟩
    have hsW := hcW.size
    have hst := t.chg.size
    refine ⟨rfl, g', ⟨⟨hd', rfl, hdW.chg.trans t.chg (fun i hi hx => by have := hd.low i hx; omega), fun q hq => ?_⟩, hke, ?_, hd.chg.size, fun hx => ?_, hl, hs, hz, fun k hk => by cases hk⟩⟩
    · rcases t.fp q hq with a1 | a1
      · exact hd.low q a1
      · have := hd.chg.size; omega
    · rw [t.d, hd.d]
      exact t.chg.heap (hcW.heap hx1 (fun x => x)) hout
    · rcases t.fp _ hx with a1 | a1
      · exact hout a1
      · omega)
  have HW1 := Lib.hid hW1
  clear hke hl hs hz hb1 hx1 hd1 hout hL hnil hd hW1
  go_enter Try.func5, Try.ntmps5
  go_upto_region 4 with fail
  rw [← HW1.out]
  go_wp2_with fail
  refine HL.out.mono ?_
  rintro e w2 ⟨v, rfl, hs2, hb2⟩
  obtain ⟨a, cap, rfl⟩ := hs2.form
  have HB2 := Lib.hid (HB.out w2 a cap hb2)
  clear hs2 hb2
  go_wp2_with fail
  refine HB2.out.mono ?_
  rintro e w3 ⟨rfl, g3, h3⟩
  have H3 := Lib.hid h3
  clear h3
  go_wp2_with fail
  go_ret2
  exact ⟨_, g3, rfl, Nat.le_refl _, H3.out⟩
/-- What Add answers, and what entries there are then. -/
def addE (t k : ByteArray) (x y : Int) : Int := if topicB t = true ∧ keyB k = true then (if (0 ≤ x ∧ x ≤ 1099511627776) ∧ 0 ≤ y ∧ y ≤ 1099511627776 then 0 else 1) else 11
def addR (R : List KE) (t k : ByteArray) (x y : Int) : List KE := if addE t k x y = 0 then ⟨numK t k, x.toNat, y.toNat⟩ :: R else R
def KPutTo (w0 w : World) (xb : Nat) (g : Gh) (st : St) (n : Nat) (R : List KE) (err : Int) (e : Ending) (w' : World) : Prop :=
  e = .returned (.int .i64 err) ∧ ∃ g' st', KxI w0 w' xb g' st' (n + 2) R ∧ KTo xb w g g' w' ∧ st'.cap = st.cap
theorem Calm_more {n n' : Nat} {st : St} (h : Calm n st) (hn : n ≤ n') : Calm n' st := ⟨h.good.more hn, h.lit, h.down⟩
theorem KxI.more {w0 w : World} {xb : Nat} {g : Gh} {st : St} {n n' : Nat} {R : List KE} (h : KxI w0 w xb g st n R) (hn : n ≤ n') : KxI w0 w xb g st n' R := ⟨h.disk, Calm_more h.calm hn, h.cell, h.low, h.out, h.lnk, h.slt, h.size, h.ok⟩
set_option maxHeartbeats 4000000 in
set_option maxRecDepth 100000 in
theorem kput_any {w0 w : World} {xb : Nat} {g : Gh} {st : St} {n : Nat} {R : List KE} (h : KxI w0 w xb g st n R) (hn : n ≤ 1000000) (hl : R.length ≤ 100000) (hcap : st.size + 20 ≤ st.cap) (t k : ByteArray) (ht : t.size ≤ maxLen) (hk : k.size ≤ maxLen) (x y : Int) :
    Calls Try.prog 7 #[.pointer (some ⟨xb, 0, none⟩), .string t, .string k, .int .i64 x, .int .i64 y] w (KPutTo w0 w xb g st n (addR R t k x y) (addE t k x y)) := by
  have HT := fun W => Lib.hid (topic_any t W ht)
  have HKK := fun W => Lib.hid (key_any k W hk)
  have hsame : ∀ w', Chg (fun _ => False) w w' → ∃ g' st', KxI w0 w' xb g' st' (n + 2) R ∧ KTo xb w g g' w' ∧ st'.cap = st.cap := fun w' hc => ⟨g, st, (h.new hc).more (by omega), KTo.new g hc, rfl⟩
  have HS := Lib.hid hsame
  have hAE : addE t k x y = if topicB t = true ∧ keyB k = true then (if (0 ≤ x ∧ x ≤ 1099511627776) ∧ 0 ≤ y ∧ y ≤ 1099511627776 then 0 else 1) else 11 := rfl
  have hAR : addR R t k x y = if addE t k x y = 0 then ⟨numK t k, x.toNat, y.toNat⟩ :: R else R := rfl
  cases ht0 : topicB t with
  | false =>
    rw [ht0] at HT
    rw [if_neg (by rw [ht0]; simp)] at hAE
    rw [hAE, if_neg (by decide)] at hAR
    rw [hAE, hAR]
    clear h hAE hAR hsame
    go_enter Try.func7, Try.ntmps7
    go_wp2_with fail
    refine (HT _).out.mono ?_
    rintro e w2 ⟨rfl, hb2⟩
    go_wp2_with fail
    go_ret
    exact ⟨rfl, HS.out _ (Chg.of_below hb2)⟩
  | true =>
    rw [ht0] at HT
    cases hk0 : keyB k with
    | false =>
      rw [hk0] at HKK
      rw [if_neg (by rw [hk0]; simp)] at hAE
      rw [hAE, if_neg (by decide)] at hAR
      rw [hAE, hAR]
      clear h hAE hAR hsame
      go_enter Try.func7, Try.ntmps7
      go_wp2_with fail
      refine (HT _).out.mono ?_
      rintro e w2 ⟨rfl, hb2⟩
      have HB2 := Lib.hid hb2
      clear hb2
      go_wp2_with fail
      refine (HKK _).out.mono ?_
      rintro e w3 ⟨rfl, hb3⟩
      have HB3 := Lib.hid (below_on hb3 HB2.out (Nat.le_refl _))
      clear hb3
      go_wp2_with fail
      go_ret
      exact ⟨rfl, HS.out _ (Chg.of_below HB3.out)⟩
    | true =>
      rw [hk0] at HKK
      rw [if_pos ⟨ht0, hk0⟩] at hAE
      have HRX := fun W => Lib.hid (right_any x W)
      have HRY := fun W => Lib.hid (right_any y W)
      by_cases hx : 0 ≤ x ∧ x ≤ 1099511627776
      · rw [decide_eq_true hx] at HRX
        by_cases hy : 0 ≤ y ∧ y ≤ 1099511627776
        · rw [decide_eq_true hy] at HRY
          rw [if_pos ⟨hx, hy⟩] at hAE
          rw [hAE, if_pos rfl] at hAR
          rw [hAE, hAR]
          clear hAE hAR
          have HN := fun W => Lib.hid (number_any t k W ht hk)
          have hnl := numK_lt t k
          obtain ⟨h0, hh0⟩ : ∃ h0, h0 = numK t k := ⟨_, rfl⟩
          rw [← hh0] at HN hnl ⊢
          have hmod : ((h0 : Int).tmod 8) = ((h0 % 8 : Nat) : Int) := by rw [Int.tmod_eq_emod_of_nonneg (by omega)]; omega
          have hlast : ∀ W, Below w.heap.size w W → Calls Try.prog 17 #[.pointer (some ⟨xb, 0, none⟩), .int .i64 ((h0 % 8 : Nat) : Int)] W fun e w' => e = .returned (.tuple #[.int .i64 (lastR R (h0 % 8) : Nat), .int .i64 0]) ∧ Below W.heap.size W w' := fun W hW => last_any (h.new (Chg.of_below hW)) (by omega) (h0 % 8) (Nat.mod_lt _ (by decide))
          have hadd : ∀ W, Below w.heap.size w W → Calls Try.prog 18 #[.pointer (some ⟨xb, 0, none⟩), .agg #[.int .i64 (h0 : Int), .int .i64 x, .int .i64 y, .int .i64 (lastR R (h0 % 8) : Nat)]] W (KPutTo w0 w xb g st n (⟨h0, x.toNat, y.toNat⟩ :: R) 0) := fun W hW => by
            have := kadd_any (h.new (Chg.of_below hW)) hn hl ⟨h0, x.toNat, y.toNat⟩ ⟨hnl, by show x.toNat ≤ _; omega, by show y.toNat ≤ _; omega⟩ hcap
            unfold linkV at this
            dsimp only at this
            rw [show ((x.toNat : Nat) : Int) = x by omega, show ((y.toNat : Nat) : Int) = y by omega] at this
            refine this.mono ?_
            rintro e w' ⟨rfl, g', st', a1, a2, a3⟩
            exact ⟨rfl, g', st', a1, (KTo.new g (Chg.of_below hW)).trans a2, a3⟩
          obtain ⟨la, hla⟩ : ∃ la, la = lastR R (h0 % 8) := ⟨_, rfl⟩
          rw [← hla] at hlast hadd
          obtain ⟨bi, hbi⟩ : ∃ bi : Int, bi = ((h0 % 8 : Nat) : Int) := ⟨_, rfl⟩
          rw [← hbi] at hlast hmod
          have HLA := Lib.hid hlast
          have HAD := Lib.hid hadd
          clear h hlast hadd hla hbi hh0 hsame ht0 hk0
          go_enter Try.func7, Try.ntmps7
          go_wp2_with fail
          refine (HT _).out.mono ?_
          rintro e w2 ⟨rfl, hb2⟩
          have HB2 := Lib.hid hb2
          clear hb2
          go_wp2_with fail
          refine (HKK _).out.mono ?_
          rintro e w3 ⟨rfl, hb3⟩
          have HB3 := Lib.hid (below_on hb3 HB2.out (Nat.le_refl _))
          clear hb3
          go_wp2_with fail
          refine (HRX _).out.mono ?_
          rintro e w4 ⟨rfl, rfl⟩
          go_wp2_with fail
          refine (HRY _).out.mono ?_
          rintro e w4 ⟨rfl, rfl⟩
          go_wp2_with fail
          refine (HN _).out.mono ?_
          rintro e w4 ⟨rfl, hb4⟩
          have HB4 := Lib.hid (below_on hb4 HB3.out (Nat.le_refl _))
          clear hb4
          go_wp2_with fail
          refine (HLA.out _ HB4.out).mono ?_
          rintro e w5 ⟨rfl, hb5⟩
          have HB5 := Lib.hid (below_on hb5 HB4.out (Nat.le_refl _))
          clear hb5
          go_wp2_with fail
          refine (HAD.out _ HB5.out).mono ?_
          rintro e w6 ⟨rfl, h6⟩
          have H6 := Lib.hid h6
          clear h6
          go_wp2_with fail
          go_ret
          exact ⟨rfl, H6.out⟩
        · rw [decide_eq_false hy] at HRY
          rw [if_neg (fun hx' => hy hx'.2)] at hAE
          rw [hAE, if_neg (by decide)] at hAR
          rw [hAE, hAR]
          clear h hAE hAR hsame
          go_enter Try.func7, Try.ntmps7
          go_wp2_with fail
          refine (HT _).out.mono ?_
          rintro e w2 ⟨rfl, hb2⟩
          have HB2 := Lib.hid hb2
          clear hb2
          go_wp2_with fail
          refine (HKK _).out.mono ?_
          rintro e w3 ⟨rfl, hb3⟩
          have HB3 := Lib.hid (below_on hb3 HB2.out (Nat.le_refl _))
          clear hb3
          go_wp2_with fail
          refine (HRX _).out.mono ?_
          rintro e w4 ⟨rfl, rfl⟩
          go_wp2_with fail
          refine (HRY _).out.mono ?_
          rintro e w4 ⟨rfl, rfl⟩
          go_wp2_with fail
          go_ret
          exact ⟨rfl, HS.out _ (Chg.of_below HB3.out)⟩
      · rw [decide_eq_false hx] at HRX
        rw [if_neg (fun hx' => hx hx'.1)] at hAE
        rw [hAE, if_neg (by decide)] at hAR
        rw [hAE, hAR]
        clear h hAE hAR hsame
        go_enter Try.func7, Try.ntmps7
        go_wp2_with fail
        refine (HT _).out.mono ?_
        rintro e w2 ⟨rfl, hb2⟩
        have HB2 := Lib.hid hb2
        clear hb2
        go_wp2_with fail
        refine (HKK _).out.mono ?_
        rintro e w3 ⟨rfl, hb3⟩
        have HB3 := Lib.hid (below_on hb3 HB2.out (Nat.le_refl _))
        clear hb3
        go_wp2_with fail
        refine (HRX _).out.mono ?_
        rintro e w4 ⟨rfl, rfl⟩
        go_wp2_with fail
        go_ret
        exact ⟨rfl, HS.out _ (Chg.of_below HB3.out)⟩
end Go.Proofs.Ytmmnoieafndgjaa

namespace Go.Proofs.Ytmmnoieafndgjaa
open Go.RowKit Go.Deep
set_option linter.unusedVariables false
set_option linter.unusedSimpArgs false

def aT : ByteArray := ⟨#[97]⟩
def kT : ByteArray := ⟨#[107]⟩
theorem knew_first {w0 w w' : World} (hc : Chg (fun _ => False) w0 w) (c : Int) (h0 : 24 ≤ c) (h1 : c ≤ 16777216) (hd : DiskAt w' ⟨w.heap.size, none, []⟩ (newSt c)) (hb : Below w.heap.size w w') : Calls Try.prog 5 #[.pointer (some ⟨w.heap.size, 0, none⟩)] w' (KNewTo w0 c w') := by
  have hg : DiskG w0 w' w.heap.size ⟨w.heap.size, none, []⟩ (newSt c) := ⟨hd, rfl, hc.trans (Chg.of_below hb : Chg (fun _ => False) w w') (fun _ _ x => x), fun q hq => by simp [Gh.fp] at hq; rw [hq]; exact hc.size⟩
  exact knew_any c h0 h1 hg
theorem kEnd_cap (c : Int) (h0 : 24 ≤ c) (h1 : c ≤ 16777216) : (kEnd c).cap = c.toNat := (kSt_facts c h0 h1).2.2.2.2.2.2.2.1
theorem ints_two (w : World) (a b : Int) : Ints (w.alloc (.cells #[.int .i64 a, .int .i64 b] 3)) (.slice (some ⟨w.heap.size, 0, none⟩) 2 2) [a, b] :=
  ⟨_, _, rfl, .inr ⟨w.heap.size, 0, rfl, fun i hi => by
    match i, hi with
    | 0, _ => simp
    | 1, _ => simp⟩⟩
set_option maxHeartbeats 2000000 in
set_option maxRecDepth 100000 in
theorem kawake_any (w : World) : Calls Try.prog 4 #[] w fun e w' => e = .returned (.bool true) ∧ Chg (fun _ => False) w w' := by
  have HN := Lib.hid (new_any 10000 w)
  go_enter Try.func4, Try.ntmps4
  go_wp2_with fail
  refine HN.out.mono ?_
  rintro e w1 ⟨rfl, hd1, hb1⟩
  have HQ := Lib.hid (knew_first (Chg.refl _ w) 10000 (by decide) (by decide) hd1 hb1)
  clear hd1 hb1
  go_wp2_with fail
  refine HQ.out.mono ?_
  rintro e w2 ⟨xb, g, rfl, _, h2⟩
  have e1 : addE aT kT 5 0 = 0 := by decide +kernel
  have e2 : addE aT kT 9 0 = 0 := by decide +kernel
  have hcap := kEnd_cap 10000 (by decide) (by decide)
  have hA := kput_any h2 (by decide) (by decide) (by rw [h2.size, hcap]; decide) aT kT (by decide) (by decide) 5 0
  rw [e1, show addR [] aT kT 5 0 = [⟨numK aT kT, 5, 0⟩] from by unfold addR; rw [e1]; rfl] at hA
  have HA := Lib.hid hA
  clear h2 hA
  go_wp2_with fail
  refine HA.out.mono ?_
  rintro e w3 ⟨rfl, g3, st3, h3, t3, c3⟩
  have hB := kput_any h3 (by decide) (by decide) (by rw [h3.size, c3, hcap]; decide) aT kT (by decide) (by decide) 9 0
  rw [e2, show addR [⟨numK aT kT, 5, 0⟩] aT kT 9 0 = [⟨numK aT kT, 9, 0⟩, ⟨numK aT kT, 5, 0⟩] from by unfold addR; rw [e2]; rfl] at hB
  have HB := Lib.hid hB
  clear h3 hB t3 c3
  go_wp2_with fail
  refine HB.out.mono ?_
  rintro e w4 ⟨rfl, g4, st4, h4, t4, c4⟩
  have hF := kfind_any h4 (by decide) aT kT (by decide) (by decide) 0 9
  rw [show findL (numK aT kT) 0 9 [⟨numK aT kT, 9, 0⟩, ⟨numK aT kT, 5, 0⟩] = [9, 5] from by decide +kernel] at hF
  have HF := Lib.hid hF
  have HC4 := Lib.hid h4.disk.chg
  clear h4 hF t4 c4 hcap e1 e2
  go_wp2_with fail
  refine HF.out.mono ?_
  rintro e w5 ⟨v, rfl, ho5, hc5⟩
  obtain ⟨av, cv, hv⟩ := ints_form (ints_of_row ho5)
  subst hv
  have HI := Lib.hid (ints_any _ _ [9, 5] [9, 5] (w5.alloc (.cells #[.int .i64 9, .int .i64 5] 3)) (by
    obtain ⟨a, cap, e1, h1⟩ := ints_of_row ho5
    refine ⟨a, cap, e1, ?_⟩
    rcases h1 with h1 | ⟨b, o, h2, h3⟩
    · exact .inl h1
    · exact .inr ⟨b, o, h2, fun i hi => (Chg.alloc (fun _ => False) (Chg.refl _ w5) _).cell (h3 i hi) (fun x => x)⟩) (ints_two w5 9 5) (by decide))
  have HC5 := Lib.hid hc5
  clear ho5 hc5
  go_wp2_with fail
  refine HI.out.mono ?_
  rintro e w6 ⟨rfl, y, rfl⟩
  go_wp2_with fail
  go_ret
  exact ⟨rfl, ((HC4.out.trans HC5.out (fun _ _ x => x)).trans (Chg.alloc (fun _ => False) (Chg.refl _ w5) _) (fun _ _ x => x)).drewN y⟩
end Go.Proofs.Ytmmnoieafndgjaa

namespace Go.Proofs.Ytmmnoieafndgjaa
open Go.RowKit Go.Deep
set_option linter.unusedVariables false
set_option linter.unusedSimpArgs false

/-- All places of a key's records, newest first. -/
def allL (h : Nat) (R : List KE) : List Int := (R.filter fun k => decide (k.h = h)).map fun k => (k.at_ : Int)
theorem allL_cons (h : Nat) (k : KE) (r : List KE) : allL h (k :: r) = if k.h = h then (k.at_ : Int) :: allL h r else allL h r := by
  unfold allL
  rw [List.filter_cons]
  by_cases hk : k.h = h
  · rw [if_pos (decide_eq_true hk), if_pos hk]; rfl
  · rw [if_neg (by simpa using hk), if_neg hk]
theorem along_all (h : Nat) (most : Nat) : ∀ (R : List KE) (a : List Int), a.length ≤ most → alongF (findStp h 0 most) (h % 8) R a = a ++ (allL h R).take (most - a.length)
  | [], a, _ => by rw [alongF]; simp [allL]
  | k :: r, a, ha => by
    rw [alongF, allL_cons]
    by_cases hb : k.h % 8 = h % 8
    · rw [if_pos hb]
      by_cases hf : a.length = most
      · have e : findStp h 0 most (r.length + 1) k a = (false, a) := by unfold findStp; rw [if_pos (.inl (by omega))]
        rw [e, hf]
        simp
      · have e : findStp h 0 most (r.length + 1) k a = (true, if k.h = h then a ++ [(k.at_ : Int)] else a) := by unfold findStp; rw [if_neg (by omega)]
        rw [e]
        dsimp only
        rw [if_pos rfl]
        by_cases hk : k.h = h
        · rw [if_pos hk, if_pos hk, along_all h most r _ (by rw [List.length_append]; simp only [List.length_cons, List.length_nil]; omega), List.length_append, List.append_assoc]
          obtain ⟨d, hd⟩ : ∃ d, most - a.length = d + 1 := ⟨most - a.length - 1, by omega⟩
          rw [hd, show most - (a.length + [(k.at_ : Int)].length) = d by simp only [List.length_cons, List.length_nil]; omega, List.take_succ_cons]
          rfl
        · rw [if_neg hk, if_neg hk]
          exact along_all h most r a ha
    · have hk : ¬ k.h = h := fun hx => hb (by rw [hx])
      rw [if_neg hb, if_neg hk]
      exact along_all h most r a ha
theorem find_all (h most : Nat) (R : List KE) : findL h 0 most R = (allL h R).take most := by
  unfold findL
  rw [along_all h most R [] (Nat.zero_le _)]
  simp
/-- A letter of the law. -/
def ltr (c : Nat) : ByteArray := ⟨#[UInt8.ofNat (97 + c)]⟩
theorem ltr_size (c : Nat) : (ltr c).size = 1 := rfl
theorem ltr_ok {c : Nat} (h : c < 4) (x y : Int) (hx : 0 ≤ x) (hx2 : x ≤ 1099511627776) (hy : 0 ≤ y) (hy2 : y ≤ 1099511627776) : addE aT (ltr c) x y = 0 := by
  have h1 : topicB aT = true := by decide +kernel
  have h2 : keyB (ltr c) = true := by
    match c, h with
    | 0, _ => decide +kernel
    | 1, _ => decide +kernel
    | 2, _ => decide +kernel
    | 3, _ => decide +kernel
  unfold addE
  rw [if_pos ⟨h1, h2⟩, if_pos ⟨⟨hx, hx2⟩, hy, hy2⟩]
theorem ltr_num {c d : Nat} (hc : c < 4) (hd : d < 4) (h : numK aT (ltr c) = numK aT (ltr d)) : c = d := by
  have key : ∀ c, c < 4 → ∀ d, d < 4 → numK aT (ltr c) = numK aT (ltr d) → c = d := by decide +kernel
  exact key c hc d hd h
/-- The law's entries: of the i-th key one at ten times i. -/
def mR (l : List Int) : List KE :=
  (l.zipIdx.map fun p => (⟨numK aT (ltr (p.1.toNat % 4)), 10 * p.2, p.2⟩ : KE)).reverse
theorem mR_snoc (l : List Int) (x : Int) : mR (l ++ [x]) = ⟨numK aT (ltr (x.toNat % 4)), 10 * l.length, l.length⟩ :: mR l := by
  unfold mR
  rw [List.zipIdx_append, List.map_append, List.reverse_append]
  simp
theorem mR_len (l : List Int) : (mR l).length = l.length := by unfold mR; simp
theorem mR_mem {l : List Int} {k : KE} (h : k ∈ mR l) : ∃ (i : Nat) (x : Int), l[i]? = some x ∧ k.at_ = 10 * i ∧ k.h = numK aT (ltr (x.toNat % 4)) := by
  unfold mR at h
  rw [List.mem_reverse] at h
  obtain ⟨p, hp, rfl⟩ := List.mem_map.1 h
  obtain ⟨x, i⟩ := p
  have := List.mem_zipIdx_iff_getElem?.1 hp
  exact ⟨i, x, this, rfl, rfl⟩
theorem mR_falls (l : List Int) : (mR l).Pairwise (fun a b => b.at_ < a.at_) := by
  have key : ∀ k, k ≤ l.length → (mR (l.take k)).Pairwise (fun a b => b.at_ < a.at_) := by
    intro k
    induction k with
    | zero => intro _; rw [List.take_zero]; exact List.Pairwise.nil
    | succ k ih =>
      intro hk
      have e : l.take (k + 1) = l.take k ++ [l[k]] := by rw [List.take_add_one, List.getElem?_eq_getElem (by omega)]; rfl
      rw [e, mR_snoc]
      refine List.pairwise_cons.2 ⟨fun q hq => ?_, ih (by omega)⟩
      obtain ⟨i, y, h1, h2, _⟩ := mR_mem hq
      have := (List.getElem?_eq_some_iff.1 h1).1
      rw [h2]
      show 10 * i < 10 * (l.take k).length
      omega
  have := key l.length (Nat.le_refl _)
  rwa [List.take_length] at this
theorem allL_falls (h : Nat) (l : List Int) : (allL h (mR l)).Pairwise (fun a b => b < a) := by
  unfold allL
  rw [List.pairwise_map]
  exact ((mR_falls l).filter _).imp (fun h => by omega)
theorem allL_at {c : Nat} (hc : c < 4) {l : List Int} {y : Int} (h : y ∈ allL (numK aT (ltr c)) (mR l)) : ∃ (i : Nat) (x : Int), l[i]? = some x ∧ y = ((10 * i : Nat) : Int) ∧ x.toNat % 4 = c := by
  unfold allL at h
  obtain ⟨k, hk, rfl⟩ := List.mem_map.1 h
  obtain ⟨h1, h2⟩ := List.mem_filter.1 hk
  obtain ⟨i, x, e1, e2, e3⟩ := mR_mem h1
  refine ⟨i, x, e1, by rw [e2], ?_⟩
  have h3 : k.h = numK aT (ltr c) := of_decide_eq_true h2
  rw [e3] at h3
  exact ltr_num (Nat.mod_lt _ (by decide)) hc h3
theorem allL_len (h : Nat) (l : List Int) : (allL h (mR l)).length ≤ l.length := by
  unfold allL
  rw [List.length_map]
  exact Nat.le_trans (List.length_filter_le _ _) (by rw [mR_len]; exact Nat.le_refl _)
end Go.Proofs.Ytmmnoieafndgjaa

namespace Go.Proofs.Ytmmnoieafndgjaa
open Go.RowKit Go.Deep
set_option linter.unusedVariables false
set_option linter.unusedSimpArgs false

/-- The index between two adds of a law. -/
def AdsI (w0 wr : World) (xb : Nat) (n : Nat) (R : List KE) : Prop := ∃ g st, KxI w0 wr xb g st n R ∧ st.cap = 1048576
theorem AdsI.new {w0 wr w' : World} {xb n : Nat} {R : List KE} (h : AdsI w0 wr xb n R) (hc : Chg (fun _ => False) wr w') : AdsI w0 w' xb n R := by
  obtain ⟨g, st, h1, h2⟩ := h
  exact ⟨g, st, h1.new hc, h2⟩
theorem AdsI.chg {w0 wr : World} {xb n : Nat} {R : List KE} (h : AdsI w0 wr xb n R) : Chg (fun _ => False) w0 wr := by
  obtain ⟨g, st, h1, h2⟩ := h
  exact h1.disk.chg
theorem AdsI.add {w0 wr : World} {xb n : Nat} {R : List KE} (h : AdsI w0 wr xb n R) (hn : n ≤ 1000000) (hl : R.length ≤ 10000) (t k : ByteArray) (ht : t.size ≤ 1000) (hk : k.size ≤ 1000) (x y : Int) :
    Calls Try.prog 7 #[.pointer (some ⟨xb, 0, none⟩), .string t, .string k, .int .i64 x, .int .i64 y] wr fun e w' => e = .returned (.int .i64 (addE t k x y)) ∧ AdsI w0 w' xb (n + 2) (addR R t k x y) ∧ ∃ S, Chg S wr w' ∧ S = (fun q => q = xb ∨ ∃ g st, KxI w0 wr xb g st n R ∧ q ∈ g.fp) := by
  obtain ⟨g, st, h1, h2⟩ := h
  refine (kput_any h1 hn (by omega) (by rw [h1.size, h2]; omega) t k (by unfold maxLen; omega) (by unfold maxLen; omega) x y).mono ?_
  rintro e w' ⟨rfl, g', st', a1, a2, a3⟩
  exact ⟨rfl, ⟨g', st', a1, a3.trans h2⟩, _, a2.chg.wide (fun q _ hq => hq.imp id fun hq => ⟨g, st, h1, hq⟩), rfl⟩
theorem adsI_new {w0 w w' : World} (hc : Chg (fun _ => False) w0 w) (hd : DiskAt w' ⟨w.heap.size, none, []⟩ (newSt 1048576)) (hb : Below w.heap.size w w') :
    Calls Try.prog 5 #[.pointer (some ⟨w.heap.size, 0, none⟩)] w' fun e w'' => ∃ xb, e = .returned (.tuple #[.pointer (some ⟨xb, 0, none⟩), .int .i64 0]) ∧ AdsI w0 w'' xb 3 [] := by
  refine (knew_first hc 1048576 (by decide) (by decide) hd hb).mono ?_
  rintro e w'' ⟨xb, g, rfl, _, h⟩
  exact ⟨xb, rfl, g, _, h, kEnd_cap 1048576 (by decide) (by decide)⟩
end Go.Proofs.Ytmmnoieafndgjaa

