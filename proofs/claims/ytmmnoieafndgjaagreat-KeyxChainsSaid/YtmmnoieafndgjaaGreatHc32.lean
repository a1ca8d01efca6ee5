/-
  Part 32: what the statement needs of these texts: KChW.
-/
import Derived.BigQuiet
import Derived.BigRegion
import Derived.Carry
import Derived.ChangeSame
import Derived.Deep.Grids
import Derived.Deep.OwnRows
import Derived.Deep.QuietTactic
import Derived.Deep.RegionHeld3
import Derived.IntWalk
import Derived.Laws.CopyOwn
import Derived.Laws.OwnMore
import Derived.Laws.RangeAny
import Derived.Lib.AppendStr
import Derived.Lib.AppendZerosOnto
import Derived.Lib.Atoi
import Derived.Lib.AtoiErrMem
import Derived.Lib.BufferRead
import Derived.Lib.BufferWrite
import Derived.Lib.Builder
import Derived.Lib.Hide
import Derived.Lib.IndexMore
import Derived.Lib.ItoaNum
import Derived.Lib.LaidTab
import Derived.Lib.OthersKept
import Derived.Lib.Repeat
import Derived.Lib.Slices
import Derived.Lib.SmallJoins
import Derived.Lib.Strings
import Derived.Lib.UnsafeStr
import Derived.Maps.AppendAt
import Derived.Maps.OwnSet
import Derived.Maps.RangeWalk
import Derived.OpenShut
import Derived.Orders
import Derived.ProofKit
import Derived.RowKit
import Derived.Shelf.Slices.In.SortNone
import Derived.Shelf.Small.Wraps
import Derived.Shelf.Sort.Plain
import Derived.Shelf.Strings.Builder1
import Derived.Shelf.Strings.Prefix
import Derived.Shelf.Strings.Repeat
import Derived.SliceStrings
import Derived.Sort.KeysCollected
import Derived.Sort.OwnSorted
import Derived.StillTailTactics
import Derived.StringKeys
import Derived.Test.YtmmnoieafndgjaaGreatProg
import Derived.Test.YtmmnoieafndgjaaGreatRows
import Derived.WalkKit
import Derived.WalkLawsBesides
import Derived.WalkSmall
import Derived.WalkSpells
import Derived.Test.YtmmnoieafndgjaaGreatHc1
import Derived.Test.YtmmnoieafndgjaaGreatHc2
import Derived.Test.YtmmnoieafndgjaaGreatHc3
import Derived.Test.YtmmnoieafndgjaaGreatHc4
import Derived.Test.YtmmnoieafndgjaaGreatHc5
import Derived.Test.YtmmnoieafndgjaaGreatHc6
import Derived.Test.YtmmnoieafndgjaaGreatHc7
import Derived.Test.YtmmnoieafndgjaaGreatHc8
import Derived.Test.YtmmnoieafndgjaaGreatHc9
import Derived.Test.YtmmnoieafndgjaaGreatHc10
import Derived.Test.YtmmnoieafndgjaaGreatHc11
import Derived.Test.YtmmnoieafndgjaaGreatHc12
import Derived.Test.YtmmnoieafndgjaaGreatHc13
import Derived.Test.YtmmnoieafndgjaaGreatHc14
import Derived.Test.YtmmnoieafndgjaaGreatHc15
import Derived.Test.YtmmnoieafndgjaaGreatHc16
import Derived.Test.YtmmnoieafndgjaaGreatHc17
import Derived.Test.YtmmnoieafndgjaaGreatHc18
import Derived.Test.YtmmnoieafndgjaaGreatHc19
import Derived.Test.YtmmnoieafndgjaaGreatHc20
import Derived.Test.YtmmnoieafndgjaaGreatHc21
import Derived.Test.YtmmnoieafndgjaaGreatHc22
import Derived.Test.YtmmnoieafndgjaaGreatHc23
import Derived.Test.YtmmnoieafndgjaaGreatHc24
import Derived.Test.YtmmnoieafndgjaaGreatHc25
import Derived.Test.YtmmnoieafndgjaaGreatHc26
import Derived.Test.YtmmnoieafndgjaaGreatHc27
import Derived.Test.YtmmnoieafndgjaaGreatHc28
import Derived.Test.YtmmnoieafndgjaaGreatHc29
import Derived.Test.YtmmnoieafndgjaaGreatHc30
import Derived.Test.YtmmnoieafndgjaaGreatHc31
namespace Go.Proofs.YtmmnoieafndgjaaGreat
open Go.RowKit Go.Deep
set_option linter.unusedVariables false
set_option linter.unusedSimpArgs false

theorem wf_small {n : Int} (h0 : 0 ≤ n) (h : n ≤ 1000000) : (Lit.int .i64 n).wf = true := by
  have h1 : IntKind.i64.min ≤ n ∧ n ≤ IntKind.i64.max := by
    rw [show IntKind.i64.min = (-9223372036854775808 : Int) from by decide, show IntKind.i64.max = (9223372036854775807 : Int) from by decide]
    omega
  simpa [Lit.wf] using h1
theorem ads_form {W : World} {v : Value} {os : List AdM} (h : Ads W v os) : ∃ a cap, v = .slice a os.length cap := by
  obtain ⟨a, cap, e, _⟩ := h
  exact ⟨a, cap, e⟩
theorem ads_cells {W W' : World} {a : Option Addr} {n cap k : Nat} {os : List AdM} {x : AdM} (h : Ads W (.slice a n cap) os) (hc : Chg (fun _ => False) W W') (hk : os[k]? = some x) :
    ∃ b o, a = some ⟨b, o, none⟩ ∧ W'.cell? ⟨b, o + k * 4, none⟩ = some (.string x.t) ∧ W'.cell? ⟨b, o + k * 4 + 1, none⟩ = some (.string x.k) ∧ W'.cell? ⟨b, o + k * 4 + 2, none⟩ = some (.int .i64 x.x) ∧ W'.cell? ⟨b, o + k * 4 + 3, none⟩ = some (.int .i64 x.y) := by
  obtain ⟨a', cap', e, h⟩ := h
  cases e
  rcases h with h | ⟨b, o, rfl, h⟩
  · rw [h] at hk; cases hk
  · have := h k x hk
    exact ⟨b, o, rfl, hc.cell (this 0 (by decide)) (fun x => x), hc.cell (this 1 (by decide)) (fun x => x), hc.cell (this 2 (by decide)) (fun x => x), hc.cell (this 3 (by decide)) (fun x => x)⟩
set_option maxHeartbeats 4000000 in
set_option maxRecDepth 100000 in
theorem walk_KeyxChains (v : Value) (os : List AdM) (w : World) (hv : Ads w v os) (hm : os.length ≤ maxLen) (_ : True) :
    Calls Tryz.prog 4 #[v] w fun e w' => e = .returned (.bool true) ∧ Below w.heap.size w w' := by
  have hto : ∀ w', Chg (fun _ => False) w w' → Below w.heap.size w w' := fun w' h => ⟨h.os, h.tape, h.output, h.size, fun i hi => h.block i hi (fun x => x)⟩
  have HTO := Lib.hid hto
  obtain ⟨a, cap, rfl⟩ := ads_form hv
  obtain ⟨n, hn⟩ : ∃ n, n = os.length := ⟨_, rfl⟩
  rw [← hn] at hv ⊢ hm
  unfold maxLen at hm
  have HN := Lib.hid hn
  have HV := Lib.hid hv
  have HA := Lib.hid (kawake_any w)
  clear hto hv hn
  have hmm := @run_makeMap Tryz.prog
  go_enter Tryz.func4, Tryz.ntmps4
  go_wp2_with fail
  refine HA.out.mono ?_
  rintro e w1 ⟨rfl, hc1⟩
  have HC1 := Lib.hid hc1
  clear hc1
  by_cases h100 : (100 : Int) < (n : Int)
  · go_wp2_with fail
    go_ret
    exact ⟨rfl, HTO.out _ HC1.out⟩
  · have hn100 : n ≤ 100 := by omega
    have HD := Lib.hid (new_any 1048576 w1)
    go_wp2_with fail
    refine HD.out.mono ?_
    rintro e w2 ⟨rfl, hd2, hb2⟩
    have HX := Lib.hid (adsI_new HC1.out hd2 hb2)
    clear hd2 hb2
    go_wp2_with fail
    refine HX.out.mono ?_
    rintro e w3 ⟨xb, rfl, h3⟩
    have H3 := Lib.hid h3
    clear h3
    go_wp2_with fail
    go_loopw [26] (fun i wr => ∃ k : Nat, k ≤ n ∧ i = .int .i64 (k : Int) ∧ Hid (AdsI w wr xb (3 + 2 * k) (rF (os.take k)))) (fun i _ => n - (intOf i).toNat)
    case atStart => exact ⟨0, Nat.zero_le _, rfl, H3⟩
    case round =>
      obtain ⟨k, hk, rfl, HI⟩ := hrel
      by_cases hlt : k < n
      · obtain ⟨x, hx⟩ : ∃ x, os[k]? = some x := ⟨_, List.getElem?_eq_getElem (by rw [← HN.out]; exact hlt)⟩
        obtain ⟨b, o, rfl, c0, c1, c2, c3⟩ := ads_cells HV.out HI.out.chg hx
        have HSN := Lib.hid (rF_snoc hx)
        obtain ⟨xt, xk, xx, xy⟩ := x
        dsimp only at c0 c1 c2 c3 HSN
        obtain ⟨W4, hW4⟩ : ∃ W, W = wr.alloc (.cells #[.string xt, .string xk, .int .i64 xx, .int .i64 xy] 24) := ⟨_, rfl⟩
        have hc4 : Chg (fun _ => False) wr W4 := hW4 ▸ Chg.alloc _ (Chg.refl _ _) _
        have e0 : W4.cell? ⟨wr.heap.size, 0, none⟩ = some (.string xt) := by rw [hW4]; simp
        have e1 : W4.cell? ⟨wr.heap.size, 1, none⟩ = some (.string xk) := by rw [hW4]; simp
        have e2 : W4.cell? ⟨wr.heap.size, 2, none⟩ = some (.int .i64 xx) := by rw [hW4]; simp
        have e3 : W4.cell? ⟨wr.heap.size, 3, none⟩ = some (.int .i64 xy) := by rw [hW4]; simp
        have HW4 := Lib.hid hW4
        have HI4 := Lib.hid (HI.out.new hc4)
        clear hx hW4 hc4
        by_cases hs1 : (100 : Int) < (xk.size : Int)
        · go_upto_region 11 with fail
          rw [← HW4.out]
          go_wp2_with fail
          go_ret
          exact ⟨rfl, HTO.out _ HI4.out.chg⟩
        · by_cases hs2 : (100 : Int) < (xt.size : Int)
          · go_upto_region 11 with fail
            rw [← HW4.out]
            go_wp2_with fail
            go_ret
            exact ⟨rfl, HTO.out _ HI4.out.chg⟩
          · have HAD := Lib.hid (HI4.out.add (by omega) (by have := rF_len os k; omega) xt xk (by omega) (by omega) xx xy)
            go_upto_region 11 with fail
            rw [← HW4.out]
            go_wp2_with fail
            refine HAD.out.mono ?_
            rintro e w5 ⟨rfl, h5, _⟩
            rw [← HSN.out] at h5
            have H5 := Lib.hid h5
            clear h5
            go_wp2_with fail
            exact ⟨⟨k + 1, by omega, by go_num, H5⟩, by simp [intOf]; omega⟩
      · obtain rfl : k = n := by omega
        have hI := HI.out
        clear hlt hk
        have htk : os.take k = os := List.take_of_length_le (by rw [← HN.out]; omega)
        rw [htk] at hI
        have hRl : (rF os).length ≤ k := by
          have := rF_len os k
          rwa [htk] at this
        obtain ⟨R, hR⟩ : ∃ R, R = rF os := ⟨_, rfl⟩
        rw [← hR] at hI hRl
        obtain ⟨g, st, hX, _⟩ := hI
        obtain ⟨m, hm'⟩ : ∃ m, m = wr.heap.size := ⟨_, rfl⟩
        obtain ⟨W5, hW5⟩ : ∃ W, W = wr.alloc (.map #[] 0) := ⟨_, rfl⟩
        have hc5 : Chg (fun _ => False) wr W5 := hW5 ▸ Chg.alloc _ (Chg.refl _ _) _
        have hM5 : MapK nK boolEl W5 m [] := by rw [hW5, hm']; exact MapK.made wr
        have hX5 := hX.new hc5
        have hmx : xb < m := by rw [hm']; exact hX.lt
        have hmf : ∀ q ∈ g.fp, q < m := fun q hq => by rw [hm']; exact hX.disk.disk.lt q hq
        have hmw : w.heap.size ≤ m := by rw [hm']; exact hX.disk.chg.size
        have hm5 : m < W5.heap.size := hM5.lt
        -- a change of the map's block alone
        have HMC : Hid (∀ {A B : World} {p : Nat}, KxI w A xb g st p R → Chg (fun q => q = m) A B → KxI w B xb g st p R) := Lib.hid (fun h hc => h.chg hc (by omega) (fun q hq => by have := hmf q hq; omega) (fun q hq => by omega))
        have HX5 := Lib.hid hX5
        have HM5 := Lib.hid hM5
        have HW5 := Lib.hid hW5
        have HMW := Lib.hid hmw
        have HMM := Lib.hid hm'
        have hRl2 : R.length ≤ 100 := by omega
        obtain ⟨rl, hrl⟩ : ∃ rl : Nat, rl = R.length := ⟨_, rfl⟩
        have HRL := Lib.hid hrl
        have hrl1 : rl ≤ 100 := by omega
        clear hX htk hRl hR hc5 hM5 hX5 hmx hmf hmw hW5 hm' hRl2 hrl HI H3
        go_upto_region 16 with fail
        rw [← HW5.out, ← HMM.out]
        go_wp2_with fail
        go_loopw [8, 9, 11] (fun bv _ _ wr => ∃ b : Nat, b ≤ 8 ∧ bv = .int .i64 (b : Int) ∧ Hid (MapK nK boolEl wr m (onesM (seenL b R))) ∧ Hid (KxI w wr xb g st (3 + 2 * k) R) ∧ m < wr.heap.size) (fun bv _ _ _ => 8 - (intOf bv).toNat)
        case atStart => exact ⟨0, by decide, rfl, HM5, HX5, hm5⟩
        case round =>
          obtain ⟨b, hb, rfl, HMb, HXb, hmb⟩ := hrel
          by_cases hb8 : b < 8
          · have HLEN := Lib.hid (klen_any HXb.out)
            rw [← HRL.out] at HLEN
            have HCH := Lib.hid (kchain_any HXb.out (by rw [← HRL.out]; omega) b hb8)
            have HSE : Hid (seenL (b + 1) R = seenL b R ++ chainL b R) := Lib.hid (seen_succ b R)
            have HFA : Hid (∀ j n, (chainL b R)[j]? = some n → (1 ≤ n ∧ n ≤ (rl : Int)) ∧ n ∉ seenL b R ++ (chainL b R).take j ∧ ∀ n', (chainL b R)[j + 1]? = some n' → n' < n) := Lib.hid (fun j n hj => by
              have hmem := List.mem_of_getElem? hj
              refine ⟨by rw [HRL.out]; exact chain_in b R n hmem, fun hx => ?_, fun n' hj' => ?_⟩
              · rcases List.mem_append.1 hx with hx | hx
                · exact seen_not hmem hx
                · exact not_in_take (chain_falls b R) hj hx
              · obtain ⟨h1, h2⟩ := List.getElem?_eq_some_iff.1 hj
                obtain ⟨h3, h4⟩ := List.getElem?_eq_some_iff.1 hj'
                have := List.pairwise_iff_getElem.1 (chain_falls b R) j (j + 1) h1 h3 (by omega)
                omega)
            have hsl : (seenL b R).length + (chainL b R).length ≤ rl := by rw [HRL.out]; exact seen_le hb8 R
            have hle : (chainL b R).length ≤ rl := by omega
            obtain ⟨L, hL⟩ : ∃ L, L = chainL b R := ⟨_, rfl⟩
            obtain ⟨S, hS⟩ : ∃ S, S = seenL b R := ⟨_, rfl⟩
            rw [← hL] at HCH HSE HFA hle hsl
            rw [← hS] at HSE HFA HMb hsl
            obtain ⟨cl, hcl⟩ : ∃ cl, cl = L.length := ⟨_, rfl⟩
            rw [← hcl] at hle hsl
            have HCL := Lib.hid hcl
            have HSL := Lib.hid hsl
            have g8 : (b : Int) < 8 := by omega
            have hw1 : IntKind.i64.wrap ((rl : Int) + 1) = (rl : Int) + 1 := IntWalk.i64_in _ (by omega)
            clear hL hS hcl hsl
            go_wp2_with fail
            refine HLEN.out.mono ?_
            rintro e w5 ⟨rfl, rfl⟩
            go_wp2_with fail
            refine HCH.out.mono ?_
            rintro e w6 ⟨v6, rfl, ho6, hc6⟩
            obtain ⟨va, vc, hvf⟩ := ints_form (ints_of_row ho6)
            rw [← HCL.out] at hvf ho6
            subst hvf
            obtain ⟨B6, hB6⟩ : ∃ B6, B6 = wr.heap.size := ⟨_, rfl⟩
            rw [← hB6] at ho6
            have hmB : m < B6 := by rw [hB6]; exact hmb
            have HO6 := Lib.hid ho6
            clear hB6
            have HM6 : Hid (MapK nK boolEl w6 m (onesM (S ++ L.take 0))) := Lib.hid (by rw [List.take_zero, List.append_nil]; exact HMb.out.heap (hc6.block _ hmb (fun x => x)))
            have HX6 := Lib.hid (HXb.out.new hc6)
            have hsz6 := hc6.size
            clear ho6 hc6
            go_wp2_with fail
            go_loopw [9, 11, 63] (fun la _ i wi => ∃ (j : Nat) (lz : Int), j ≤ cl ∧ la = .int .i64 lz ∧ i = .int .i64 (j : Int) ∧ Hid (∀ n', L[j]? = some n' → n' < lz) ∧ Hid (MapK nK boolEl wi m (onesM (S ++ L.take j))) ∧ Hid (KxI w wi xb g st (3 + 2 * k) R) ∧ Hid (wi.ownsRow B6 3 1 (.slice va cl vc) cl (L.map (Value.int .i64))) ∧ m < wi.heap.size) (fun _ _ i _ => cl - (intOf i).toNat)
            case atStart => exact ⟨0, (rl : Int) + 1, Nat.zero_le _, rfl, rfl, Lib.hid (fun n' hn' => by have := (HFA.out 0 n' hn').1; omega), HM6, HX6, HO6, by omega⟩
            case round =>
              obtain ⟨j, lz, hj, rfl, rfl, HLZ, HMi, HXi, HOi, hmi⟩ := hrel
              by_cases hjl : j < cl
              · obtain ⟨n', hn'⟩ : ∃ n', L[j]? = some n' := ⟨_, List.getElem?_eq_getElem (by rw [← HCL.out]; exact hjl)⟩
                obtain ⟨⟨f1, f2⟩, f3, f4⟩ := HFA.out j n' hn'
                have f5 := HLZ.out n' hn'
                have hI : Ints wr (.slice va cl vc) L := ints_of_row (by rw [← HCL.out]; exact HOi.out)
                obtain ⟨vb, vo, hva, hcell⟩ := ints_cell (k := j) hI (by rw [← HCL.out]; exact hjl)
                subst hva
                rw [List.getD_eq_getElem?_getD, hn', Option.getD_some] at hcell
                have hlk := HMi.out.look (t := 42) (e := 4) Tryz.underlying42 (bool_zero _) n' (wf_small (by omega) (by omega)) false
                rw [ones_get f3] at hlk
                have hlk : (Instr.lookup 42 (.map (some m)) (.int .i64 n') false).run Tryz.prog wr = .ok (.bool false) wr := hlk
                have htk : L.take (j + 1) = L.take j ++ [n'] := by rw [List.take_add_one, hn']; rfl
                have HTK : Hid (dropK (onesM (S ++ L.take j)) n' ++ [(n', true)] = onesM (S ++ L.take (j + 1))) := Lib.hid (by rw [ones_put f3, htk, List.append_assoc])
                have HF4 : Hid (∀ n2, L[j + 1]? = some n2 → n2 < n') := Lib.hid f4
                have g1 : ¬ lz ≤ n' := by omega
                have g2 : ¬ n' < 1 := by omega
                have hml : (onesM (S ++ L.take j)).length < maxLen := by
                  have h1 := HSL.out
                  unfold onesM maxLen
                  rw [List.length_map, List.length_append, List.length_take]
                  omega
                have hob : vb ≠ m := fun hx => by
                  have := (HOi.out.lt vb rfl).1
                  omega
                clear hn' f3 f4 htk hI
                go_wp2_with (with_reducible refine wpList_store_ib rfl (.tmp 79) (.tmp 80) (.const (.bool true)) rfl m (onesM (S ++ L.take j)) n' true rfl rfl rfl HMi.out (wf_small (by omega) (by omega)) hml ?c2)
                case c2 =>
                  intro w8 hm8 hg8 hs8
                  have hch : Chg (fun x => x = m) wr w8 := Chg.of_grown hg8 (fun x hx _ => (Option.some.inj hx).symm)
                  rw [HTK.out] at hm8
                  have HM8 := Lib.hid hm8
                  have HX8 := Lib.hid (HMC.out HXi.out hch)
                  have HO8 := Lib.hid (hch.row HOi.out (fun q hq hx => hob ((Option.some.inj hq).trans hx)))
                  clear hm8 hch hg8 hlk hcell
                  go_wp2_with fail
                  exact ⟨⟨j + 1, n', by omega, rfl, by go_num, HF4, HM8, HX8, HO8, by omega⟩, by simp [intOf]; omega⟩
              · have hjc : j = cl := by omega
                have hM := HMi.out
                rw [hjc, HCL.out, List.take_length, ← HSE.out] at hM
                have HM9 := Lib.hid hM
                clear hM
                go_wp2_with fail
                exact ⟨⟨b + 1, by omega, by go_num, HM9, HXi, hmi⟩, by simp [intOf]; omega⟩
          · have hb8' : b = 8 := by omega
            subst hb8'
            have HLEN := Lib.hid (klen_any HXb.out)
            rw [← HRL.out] at HLEN
            have hml := HMb.out.len (t := 42) (e := 4) Tryz.underlying42 3
            rw [show (onesM (seenL 8 R)).length = rl from by unfold onesM; rw [List.length_map, seen_len, HRL.out]] at hml
            have HB := Lib.hid HXb.out.disk.chg
            go_wp2_with fail
            refine HLEN.out.mono ?_
            rintro e w5 ⟨rfl, rfl⟩
            go_wp2_with fail
            go_ret
            exact ⟨rfl, HTO.out _ HB.out⟩
end Go.Proofs.YtmmnoieafndgjaaGreat

