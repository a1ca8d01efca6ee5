/-
  Part 28: what the statement needs of these texts: KMoW.
-/
import Derived.BigQuiet
import Derived.BigRegion
import Derived.Deep.OwnRows
import Derived.Deep.QuietTactic
import Derived.Deep.RegionHeld3
import Derived.IntWalk
import Derived.Laws.CopyOwn
import Derived.Laws.OwnMore
import Derived.Laws.RangeAny
import Derived.Lib.AppendStr
import Derived.Lib.AppendZerosOnto
import Derived.Lib.Atoi
import Derived.Lib.AtoiErrMem
import Derived.Lib.BufferRead
import Derived.Lib.BufferWrite
import Derived.Lib.Builder
import Derived.Lib.Hide
import Derived.Lib.IndexMore
import Derived.Lib.ItoaNum
import Derived.Lib.LaidTab
import Derived.Lib.MinMax
import Derived.Lib.OthersKept
import Derived.Lib.Repeat
import Derived.Lib.Slices
import Derived.Lib.Strings
import Derived.Lib.UnsafeStr
import Derived.Maps.AppendAt
import Derived.Maps.OwnSet
import Derived.Maps.RangeWalk
import Derived.Orders
import Derived.ProofKit
import Derived.Shelf.Slices.In.SortNone
import Derived.Shelf.Small.Wraps
import Derived.Shelf.Sort.Plain
import Derived.Shelf.Strings.Builder1
import Derived.Shelf.Strings.Prefix
import Derived.Shelf.Strings.Repeat
import Derived.Sort.KeysCollected
import Derived.Sort.OwnSorted
import Derived.StillTailTactics
import Derived.StringKeys
import Derived.Test.YtmmnoieafndgjaaProg
import Derived.Test.YtmmnoieafndgjaaRows
import Derived.WalkKit
import Derived.WalkLawsBesides
import Derived.WalkSmall
import Derived.WalkSpells
import Derived.Test.YtmmnoieafndgjaaHm1
import Derived.Test.YtmmnoieafndgjaaHm2
import Derived.Test.YtmmnoieafndgjaaHm3
import Derived.Test.YtmmnoieafndgjaaHm4
import Derived.Test.YtmmnoieafndgjaaHm5
import Derived.Test.YtmmnoieafndgjaaHm6
import Derived.Test.YtmmnoieafndgjaaHm7
import Derived.Test.YtmmnoieafndgjaaHm8
import Derived.Test.YtmmnoieafndgjaaHm9
import Derived.Test.YtmmnoieafndgjaaHm10
import Derived.Test.YtmmnoieafndgjaaHm11
import Derived.Test.YtmmnoieafndgjaaHm12
import Derived.Test.YtmmnoieafndgjaaHm13
import Derived.Test.YtmmnoieafndgjaaHm14
import Derived.Test.YtmmnoieafndgjaaHm15
import Derived.Test.YtmmnoieafndgjaaHm16
import Derived.Test.YtmmnoieafndgjaaHm17
import Derived.Test.YtmmnoieafndgjaaHm18
import Derived.Test.YtmmnoieafndgjaaHm19
import Derived.Test.YtmmnoieafndgjaaHm20
import Derived.Test.YtmmnoieafndgjaaHm21
import Derived.Test.YtmmnoieafndgjaaHm22
import Derived.Test.YtmmnoieafndgjaaHm23
import Derived.Test.YtmmnoieafndgjaaHm24
import Derived.Test.YtmmnoieafndgjaaHm25
import Derived.Test.YtmmnoieafndgjaaHm26
import Derived.Test.YtmmnoieafndgjaaHm27
namespace Go.Proofs.Ytmmnoieafndgjaa
open Go.RowKit Go.Deep
set_option linter.unusedVariables false
set_option linter.unusedSimpArgs false

theorem nums_cell {k : IntKind} {w w' : World} {a : Option Addr} {n cap i : Nat} {zs : List Int} {x : Int} (h : IntsOf k w (.slice a n cap) zs) (hc : Chg (fun _ => False) w w') (hi : zs[i]? = some x) :
    ∃ b o, a = some ⟨b, o, none⟩ ∧ w'.cell? ⟨b, o + i, none⟩ = some (.int k x) := by
  obtain ⟨a', cap', e, h⟩ := h
  cases e
  obtain ⟨hil, hie⟩ := List.getElem?_eq_some_iff.1 hi
  rcases h with h | ⟨b, o, rfl, h⟩
  · rw [h] at hil; simp at hil
  · have := h i hil
    rw [List.getD_eq_getElem?_getD, hi, Option.getD_some] at this
    exact ⟨b, o, rfl, hc.cell this (fun x => x)⟩
theorem u8_of {n : Int} (h : (Lit.int .u8 n).wf = true) : 0 ≤ n ∧ n ≤ 255 := by
  have h1 : IntKind.u8.min ≤ n ∧ n ≤ IntKind.u8.max := by simpa [Lit.wf] using h
  rw [show IntKind.u8.min = (0 : Int) from by decide, show IntKind.u8.max = (255 : Int) from by decide] at h1
  exact h1
theorem own_cap {w : World} {base s : Nat} {t : TypeId} {a : Option Addr} {n c m : Nat} {xs : List Value} (h : w.ownsRow base t s (.slice a m c) n xs) : n ≤ c := by
  rcases h.2 with ⟨e1, h0⟩ | ⟨g, cap, cur, e1, hb, hg, h1, h2, h3, h4⟩
  · omega
  · cases e1
    exact h1
theorem ints_take {w : World} {a : Option Addr} {n c m : Nat} {l : List Int} (h : Ints w (.slice a n c) l) (hm : m ≤ n) (hn : n = l.length) : Ints w (.slice a m c) (l.take m) := by
  obtain ⟨a', c', e, h⟩ := h
  cases e
  refine ⟨a, c, by rw [List.length_take]; congr 1; omega, ?_⟩
  rcases h with h | ⟨b, o, e2, h⟩
  · exact .inl (by rw [h]; simp)
  · refine .inr ⟨b, o, e2, fun i hi => ?_⟩
    rw [List.length_take] at hi
    have := h i (by omega)
    rw [List.getD_eq_getElem?_getD] at this ⊢
    rw [List.getElem?_take, if_pos (by omega)]
    exact this
set_option maxHeartbeats 8000000 in
set_option maxRecDepth 100000 in
theorem walk_KeyxMost (v : Value) (zs : List Int) (few many : Int) (w : World) (hv : IntsOf .u8 w v zs) (hz : ∀ n ∈ zs, (Lit.int .u8 n).wf = true) (hw1 : (Lit.int .u8 few).wf = true) (hw2 : (Lit.int .u8 many).wf = true) :
    Calls Try.prog 3 #[v, .int .u8 few, .int .u8 many] w fun e w' => e = .returned (.bool true) ∧ Below w.heap.size w w' := by
  have hto : ∀ w', Chg (fun _ => False) w w' → Below w.heap.size w w' := fun w' h => ⟨h.os, h.tape, h.output, h.size, fun i hi => h.block i hi (fun x => x)⟩
  have HTO := Lib.hid hto
  obtain ⟨a, cap, rfl⟩ : ∃ a cap, v = .slice a zs.length cap := by obtain ⟨a, cap, e, _⟩ := hv; exact ⟨a, cap, e⟩
  obtain ⟨n, hn⟩ : ∃ n, n = zs.length := ⟨_, rfl⟩
  rw [← hn] at hv ⊢
  obtain ⟨hf0, hf1⟩ := u8_of hw1
  obtain ⟨hm0, hm1⟩ := u8_of hw2
  have HN := Lib.hid hn
  have HV := Lib.hid hv
  have HZ := Lib.hid hz
  have HA := Lib.hid (kawake_any w)
  clear hto hv hn hz hw1 hw2
  go_enter Try.func3, Try.ntmps3
  go_wp2_with fail
  refine HA.out.mono ?_
  rintro e w1 ⟨rfl, hc1⟩
  have HC1 := Lib.hid hc1
  clear hc1
  by_cases h100 : (100 : Int) < (n : Int)
  · go_wp2_with fail
    go_ret
    exact ⟨rfl, HTO.out _ HC1.out⟩
  have hn100 : n ≤ 100 := by omega
  have HD := Lib.hid (new_any 1048576 w1)
  go_wp2_with fail
  refine HD.out.mono ?_
  rintro e w2 ⟨rfl, hd2, hb2⟩
  have HX := Lib.hid (adsI_new HC1.out hd2 hb2)
  clear hd2 hb2
  go_wp2_with fail
  refine HX.out.mono ?_
  rintro e w3 ⟨xb, rfl, h3⟩
  have H3 : Hid (AdsI w w3 xb 3 (mR (zs.take 0))) := Lib.hid (by rw [List.take_zero]; exact h3)
  clear h3
  go_wp2_with fail
  go_loopw [32] (fun i wr => ∃ k : Nat, k ≤ n ∧ i = .int .i64 (k : Int) ∧ Hid (AdsI w wr xb (3 + 2 * k) (mR (zs.take k)))) (fun i _ => n - (intOf i).toNat)
  case atStart => exact ⟨0, Nat.zero_le _, rfl, H3⟩
  case round =>
    obtain ⟨k, hk, rfl, HI⟩ := hrel
    by_cases hlt : k < n
    · obtain ⟨x, hx⟩ : ∃ x, zs[k]? = some x := ⟨_, List.getElem?_eq_getElem (by rw [← HN.out]; exact hlt)⟩
      obtain ⟨b, o, rfl, c0⟩ := nums_cell HV.out HI.out.chg hx
      obtain ⟨x0, x1⟩ := u8_of (HZ.out x (List.mem_of_getElem? hx))
      have htk : zs.take (k + 1) = zs.take k ++ [x] := by rw [List.take_add_one, hx]; rfl
      obtain ⟨c, hc⟩ : ∃ c : Nat, c = x.toNat % 4 := ⟨_, rfl⟩
      have hc4 : c < 4 := by rw [hc]; exact Nat.mod_lt _ (by decide)
      have hlen : (zs.take k).length = k := by rw [List.length_take, ← HN.out]; omega
      have hE := ltr_ok hc4 (10 * (k : Int)) (k : Int) (by omega) (by omega) (by omega) (by omega)
      have hRn : mR (zs.take (k + 1)) = addR (mR (zs.take k)) aT (ltr c) (10 * (k : Int)) (k : Int) := by
        rw [htk, mR_snoc, hlen]
        unfold addR
        rw [if_pos hE, ← hc]
        congr 2
      obtain ⟨W4, hW4⟩ : ∃ W, W = wr.alloc (.cells #[.int .u8 (97 + (c : Int))] 5) := ⟨_, rfl⟩
      have hc4' : Chg (fun _ => False) wr W4 := hW4 ▸ Chg.alloc _ (Chg.refl _ _) _
      have hcv : (convert 22 9 (.slice (some ⟨wr.heap.size, 0, none⟩) 1 1)).run Try.prog W4 = .ok (.string (ltr c)) W4 := by
        refine run_convert_bytes_back W4 _ _ _ ⟨wr.heap.size, 0, none⟩ 1 [UInt8.ofNat (97 + c)] Try.underlying22 Try.underlying5 Try.underlying9 (fun j hj => ?_)
        obtain rfl : j = 0 := by simp at hj; exact hj
        have h8 : (((UInt8.ofNat (97 + c)).toNat : Nat) : Int) = 97 + (c : Int) := by rw [UInt8.toNat_ofNat']; omega
        rw [add_none, hW4]
        show _ = some (Value.int .u8 (((UInt8.ofNat (97 + c)).toNat : Nat) : Int))
        rw [h8]
        simp
      have hAD := (HI.out.new hc4').add (by omega) (by rw [mR_len, hlen]; omega) aT (ltr c) (by decide) (by rw [ltr_size]; omega) (10 * (k : Int)) (k : Int)
      rw [hE, ← hRn] at hAD
      rw [hW4] at hAD hcv
      have HAD := Lib.hid hAD
      have e1 : x.tmod 4 = (c : Int) := by rw [Int.tmod_eq_emod_of_nonneg x0]; omega
      have e2 : IntKind.u8.wrap (c : Int) = (c : Int) := IntWalk.u8_in _ (by omega)
      have e3 : IntKind.u8.wrap (97 + (c : Int)) = 97 + (c : Int) := IntWalk.u8_in _ (by omega)
      have e4 : IntKind.i64.wrap (10 * (k : Int)) = 10 * (k : Int) := IntWalk.i64_in _ (by omega)
      clear hx htk hc hlen hE hRn hAD hW4 hc4' HI
      go_wp2_with fail
      refine HAD.out.mono ?_
      rintro e w5 ⟨rfl, h5, _⟩
      have H5 := Lib.hid h5
      clear h5
      go_wp2_with fail
      exact ⟨⟨k + 1, by omega, by go_num, H5⟩, by simp [intOf]; omega⟩
    · obtain rfl : k = n := by omega
      clear hlt hk
      have hI := HI.out
      rw [show zs.take k = zs from List.take_of_length_le (by rw [← HN.out]; omega)] at hI
      obtain ⟨g, st, hX, _⟩ := hI
      obtain ⟨R, hR⟩ : ∃ R, R = mR zs := ⟨_, rfl⟩
      have hRl : R.length = k := by rw [hR, mR_len, ← HN.out]
      rw [← hR] at hX
      obtain ⟨W4, hW4⟩ : ∃ W, W = wr.alloc (.cells #[.string ⟨#[97]⟩, .string ⟨#[98]⟩, .string ⟨#[99]⟩, .string ⟨#[100]⟩] 9) := ⟨_, rfl⟩
      obtain ⟨S4, hS4⟩ : ∃ S, S = wr.heap.size := ⟨_, rfl⟩
      have hc4 : Chg (fun _ => False) wr W4 := hW4 ▸ Chg.alloc _ (Chg.refl _ _) _
      have hX4 := hX.new hc4
      have hL4 : ∀ j, j < 4 → W4.cell? ⟨S4, j, none⟩ = some (.string (ltr j)) := fun j hj => by
        rw [hW4, hS4]
        match j, hj with
        | 0, _ => simp; rfl
        | 1, _ => simp; rfl
        | 2, _ => simp; rfl
        | 3, _ => simp; rfl
      have HX4 := Lib.hid hX4
      have HL4 := Lib.hid hL4
      have HW4 := Lib.hid hW4
      have HS4 := Lib.hid hS4
      have HR := Lib.hid hR
      have HRL := Lib.hid hRl
      clear hX hX4 hL4 hW4 hS4 hR hRl hc4 HI
      obtain ⟨mn, hmn⟩ : ∃ mn : Nat, many = (mn : Int) := ⟨many.toNat, by omega⟩
      obtain ⟨fw, hfw⟩ : ∃ fw : Nat, few = (fw : Int) := ⟨few.toNat, by omega⟩
      subst hmn hfw
      obtain ⟨fm, hfm⟩ : ∃ fm : Nat, fm = min fw mn := ⟨_, rfl⟩
      have hfmI : min (fw : Int) (mn : Int) = (fm : Int) := by omega
      have hfmle : fm ≤ mn := by omega
      have q1 : IntKind.i64.wrap (mn : Int) = (mn : Int) := IntWalk.i64_in _ (by omega)
      have q2 : IntKind.i64.wrap (fm : Int) = (fm : Int) := IntWalk.i64_in _ (by omega)
      clear hfm
      go_upto_region 15 with fail
      rw [← HW4.out, ← HS4.out]
      go_loopw [51] (fun i wr => ∃ j : Nat, j ≤ 4 ∧ i = .int .i64 (j : Int) ∧ Hid (Chg (fun _ => False) W4 wr)) (fun i _ => 4 - (intOf i).toNat)
      case atStart => exact ⟨0, by decide, rfl, Lib.hid (Chg.refl _ _)⟩
      case round =>
        obtain ⟨j, hj, rfl, HCj⟩ := hrel
        by_cases hj4 : j < 4
        · have hl4 := HCj.out.cell (HL4.out j hj4) (fun x => x)
          have hF1 := fun W (hW : Chg (fun _ => False) W4 W) => kfind_any (HX4.out.new hW) (by rw [HRL.out]; omega) aT (ltr j) (by decide) (by rw [ltr_size]; unfold maxLen; omega) 0 (mn : Int)
          have hF2 := fun W (hW : Chg (fun _ => False) W4 W) => kfind_any (HX4.out.new hW) (by rw [HRL.out]; omega) aT (ltr j) (by decide) (by rw [ltr_size]; unfold maxLen; omega) 0 (fm : Int)
          simp only [find_all] at hF1 hF2
          have hAt : ∀ y ∈ allL (numK aT (ltr j)) R, ∃ (i : Nat) (x : Int), zs[i]? = some x ∧ y = ((10 * i : Nat) : Int) ∧ x.toNat % 4 = j := fun y hy => by rw [HR.out] at hy; exact allL_at hj4 hy
          have hFl : (allL (numK aT (ltr j)) R).Pairwise (fun a b => b < a) := by rw [HR.out]; exact allL_falls _ _
          have hXl : (allL (numK aT (ltr j)) R).length ≤ 100 := by
            have := allL_len (numK aT (ltr j)) zs
            rw [HR.out]
            have := HN.out
            omega
          obtain ⟨X, hX⟩ : ∃ X, X = allL (numK aT (ltr j)) R := ⟨_, rfl⟩
          rw [← hX] at hAt hFl hXl
          simp only [← hX] at hF1 hF2
          obtain ⟨ks, hks⟩ : ∃ ks, ks = ltr j := ⟨_, rfl⟩
          rw [← hks] at hl4
          simp only [← hks] at hF1 hF2
          obtain ⟨L, hL⟩ : ∃ L, L = X.take mn := ⟨_, rfl⟩
          obtain ⟨M, hM⟩ : ∃ M, M = X.take fm := ⟨_, rfl⟩
          simp only [← hL] at hF1
          simp only [← hM] at hF2
          obtain ⟨ln, hln⟩ : ∃ ln, ln = L.length := ⟨_, rfl⟩
          obtain ⟨ml, hml⟩ : ∃ ml, ml = M.length := ⟨_, rfl⟩
          have hln2 : ln = min mn X.length := by rw [hln, hL, List.length_take]
          have hml2 : ml = min fm X.length := by rw [hml, hM, List.length_take]
          have hLM : L.take ml = M := by
            rw [hL, hM, List.take_take]
            by_cases hc : fm ≤ X.length
            · congr 1; omega
            · rw [List.take_of_length_le (by omega), List.take_of_length_le (by omega)]
          have hLat : ∀ (i : Nat) (y : Int), L[i]? = some y → ∃ (q : Nat) (x : Int), zs[q]? = some x ∧ y = ((10 * q : Nat) : Int) ∧ x.toNat % 4 = j := fun i y hy => by
            have h1 := List.mem_of_getElem? hy
            rw [hL] at h1
            exact hAt y (List.mem_of_mem_take h1)
          have hLfl : ∀ (i : Nat) (y z : Int), L[i]? = some y → L[i + 1]? = some z → z < y := fun i y z hy hz => by
            have hp : L.Pairwise (fun a b => b < a) := by rw [hL]; exact hFl.sublist (List.take_sublist _ _)
            obtain ⟨h1, h2⟩ := List.getElem?_eq_some_iff.1 hy
            obtain ⟨h3, h4⟩ := List.getElem?_eq_some_iff.1 hz
            have := List.pairwise_iff_getElem.1 hp i (i + 1) h1 h3 (by omega)
            omega
          have p1 : ml ≤ fm := by omega
          have p2 : ml ≤ ln := by omega
          have p3 : ml < fm → ml = ln := by omega
          have p4 : ln ≤ 100 := by omega
          have HLAT := Lib.hid hLat
          have HLFL := Lib.hid hLfl
          have HLM := Lib.hid hLM
          have HLN := Lib.hid hln
          have HML := Lib.hid hml
          have HKS := Lib.hid hks
          have HF1 := Lib.hid hF1
          have HF2 := Lib.hid hF2
          have d1 : decide ((fm : Int) < (ml : Int)) = false := decide_eq_false (by omega)
          have d2 : decide ((ln : Int) < (ml : Int)) = false := decide_eq_false (by omega)
          clear hF1 hF2 hAt hFl hXl hX hks hL hM hln hml hln2 hml2 hLM hLat hLfl
          go_wp2_with fail
          refine (HF1.out _ HCj.out).mono ?_
          rintro e w6 ⟨v6, rfl, ho6, hc6⟩
          obtain ⟨a6, c6, hv6⟩ := ints_form (ints_of_row ho6)
          rw [← HLN.out] at hv6 ho6
          subst hv6
          have hcap6 := own_cap ho6
          have HO6 := Lib.hid ho6
          have HC6 := Lib.hid (HCj.out.trans hc6 (fun _ _ x => x))
          clear ho6 hc6
          go_wp2_with fail
          refine (HF2.out _ HC6.out).mono ?_
          rintro e w7 ⟨v7, rfl, ho7, hc7⟩
          obtain ⟨a7, c7, hv7⟩ := ints_form (ints_of_row ho7)
          rw [← HML.out] at hv7 ho7
          subst hv7
          have HO7 := Lib.hid ho7
          have HO67 := Lib.hid (hc7.row HO6.out (fun _ _ x => x))
          have HC7 := Lib.hid (HC6.out.trans hc7 (fun _ _ x => x))
          clear ho7 hc7
          have HI := Lib.hid (ints_any (.slice a7 ml c7) (.slice a6 ml c6) M M w7 (by rw [HML.out]; exact ints_of_row (by rw [← HML.out]; exact HO7.out)) (by
            have h1 : Ints w7 (.slice a6 ln c6) L := by
              have := HO67.out
              rw [HLN.out] at this ⊢
              exact ints_of_row this
            rw [← HLM.out]
            exact ints_take h1 p2 HLN.out) (by rw [← HML.out]; omega))
          have hb : ((ml : Int) < (fm : Int) ∧ ln = ml) ∨ fm ≤ ml := by
            by_cases hc : ml < fm
            · have := p3 hc
              exact .inl ⟨by omega, this.symm⟩
            · exact .inr (by omega)
          clear p3
          have HP := Lib.hid (And.intro p1 p2)
          rcases hb with ⟨d3, rfl⟩ | d3
          all_goals
            go_wp2_with fail
            refine HI.out.mono ?_
            rintro e w8 ⟨rfl, y8, rfl⟩
            have HO8 := Lib.hid (((Chg.refl (fun _ => False) w7).drewN y8).row HO67.out (fun _ _ x => x))
            have HC8 := Lib.hid (HC7.out.drewN y8)
            generalize w7.drewN y8 = w9 at HO8 HC8 ⊢
            go_wp2_with fail
            all_goals first | (exfalso; have := HP.out; omega) | skip
            go_loopw [17, 122] (fun _ i wr => ∃ t : Nat, t ≤ ln ∧ i = .int .i64 (t : Int) ∧ Hid (Chg (fun _ => False) w9 wr)) (fun _ i _ => ln - (intOf i).toNat)
            case atStart => exact ⟨0, Nat.zero_le _, rfl, Lib.hid (Chg.refl _ _)⟩
            case round =>
              obtain ⟨t, ht, rfl, HCt⟩ := hrel
              by_cases htl : t < ln
              · obtain ⟨y, hy⟩ : ∃ y, L[t]? = some y := ⟨_, List.getElem?_eq_getElem (by rw [← HLN.out]; exact htl)⟩
                obtain ⟨q, x, hq, hyq, hx4⟩ := HLAT.out t y hy
                have hI8 : Ints w9 (.slice a6 ln c6) L := by
                  have := HO8.out
                  rw [HLN.out] at this ⊢
                  exact ints_of_row this
                obtain ⟨b6, o6, rfl, hcy⟩ := nums_cell hI8 HCt.out hy
                obtain ⟨x0, x1⟩ := u8_of (HZ.out x (List.mem_of_getElem? hq))
                have hql : q < k := by have := (List.getElem?_eq_some_iff.1 hq).1; rw [HN.out]; exact this
                have hwt : Chg (fun _ => False) w wr := (HX4.out.disk.chg.trans HC8.out (fun _ _ x => x)).trans HCt.out (fun _ _ x => x)
                obtain ⟨kb, ko, rfl, hck⟩ := nums_cell HV.out hwt hq
                have e1 : y.tdiv 10 = (q : Int) := by rw [hyq, Int.tdiv_eq_ediv_of_nonneg (by omega)]; omega
                have e2 : IntKind.i64.wrap (q : Int) = (q : Int) := IntWalk.i64_in _ (by omega)
                have e3 : x.tmod 4 = (j : Int) := by rw [Int.tmod_eq_emod_of_nonneg x0]; omega
                have e4 : IntKind.u8.wrap (j : Int) = (j : Int) := IntWalk.u8_in _ (by omega)
                have hi0 : ∀ W, (Instr.index 9 (.string ks) (.int .i64 0)).run Try.prog W = .ok (.int .u8 (97 + (j : Int))) W := fun W => by
                  have h8 : (((UInt8.ofNat (97 + j)).toNat : Nat) : Int) = 97 + (j : Int) := by rw [UInt8.toNat_ofNat']; omega
                  rw [HKS.out, run_index_string W 9 (ltr j) .i64 0 Try.underlying9, dif_pos ⟨by omega, by rw [ltr_size]; omega⟩]
                  show Result.ok (Value.int .u8 (((UInt8.ofNat (97 + j)).toNat : Nat) : Int)) W = _
                  rw [h8]
                have e5 : IntKind.u8.wrap (97 + (j : Int) - 97) = (j : Int) := IntWalk.u8_in _ (by omega) |>.trans (by omega)
                have g1 : (q : Int) < (k : Int) := by omega
                by_cases ht0 : t = 0
                · have g2 : decide (0 < t) = false := decide_eq_false (by omega)
                  clear hy hq hyq hx4 hI8 hwt ht0
                  go_upto_region 24 with fail
                  go_quiet (fail)
                  go_wp2_with fail
                  exact ⟨⟨t + 1, by omega, by go_num, Lib.hid (HCt.out.drewN _)⟩, by simp [intOf]; omega⟩
                · obtain ⟨t0, ht0'⟩ : ∃ t0, t = t0 + 1 := ⟨t - 1, by omega⟩
                  obtain ⟨z, hz⟩ : ∃ z, L[t0]? = some z := ⟨_, List.getElem?_eq_getElem (by rw [← HLN.out]; omega)⟩
                  have hlt0 := HLFL.out t0 z y hz (by rw [← ht0']; exact hy)
                  obtain ⟨b7, o7, hb7, hcz⟩ := nums_cell hI8 HCt.out hz
                  cases hb7
                  have g2 : decide (0 < t) = true := decide_eq_true (by omega)
                  have g3 : IntKind.i64.wrap ((t : Int) - 1) = (t0 : Int) := by rw [IntWalk.i64_in _ (by omega)]; omega
                  have g4 : decide (z ≤ y) = false := decide_eq_false (by omega)
                  have g5 : (t0 : Int) < (ln : Int) := by omega
                  have HT0 := Lib.hid ht0'
                  clear hy hq hyq hx4 hI8 hwt ht0 hz hlt0 ht0'
                  go_upto_region 24 with fail
                  go_quiet (fail)
                  go_wp2_with fail
                  exact ⟨⟨t + 1, by omega, by go_num, Lib.hid (HCt.out.drewN _)⟩, by simp [intOf]; omega⟩
              · obtain rfl : t = ln := by omega
                go_wp2_with fail
                exact ⟨⟨j + 1, by omega, by go_num, Lib.hid (HC8.out.trans HCt.out (fun _ _ x => x))⟩, by simp [intOf]; omega⟩
        · obtain rfl : j = 4 := by omega
          go_wp2_with fail
          go_ret
          exact ⟨rfl, HTO.out _ (HX4.out.disk.chg.trans HCj.out (fun _ _ x => x))⟩
end Go.Proofs.Ytmmnoieafndgjaa

