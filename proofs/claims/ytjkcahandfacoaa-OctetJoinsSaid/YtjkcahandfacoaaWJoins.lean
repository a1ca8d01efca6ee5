/-
  OctetJoins, walked: true for every input; only new memory is written.
-/
import Derived.Test.YtjkcahandfacoaaApp
import Derived.OpenShut
namespace Go.Proofs.Ytjkcahandfacoaa
open Go.RowKit Go.Deep

set_option maxRecDepth 100000 in
theorem joins_many (v u x : Value) (zs : List Int) (ts ls : List ByteArray) (w : World) (hv : IntsOf .u16 w v zs) (hu : Strs w 0 u ts) (hx : Strs w 0 x ls) (h : 20 < zs.length ∨ zs.length ≤ 20 ∧ 20 < ts.length ∨ zs.length ≤ 20 ∧ ts.length ≤ 20 ∧ 20 < ls.length) :
    Calls Try.prog 7 #[v, u, x] w fun e w' => e = .returned (.bool true) ∧ Below w.heap.size w w' := by
  obtain ⟨a, cap, rfl, _⟩ := hv
  obtain ⟨b, cap2, rfl⟩ := hu.form
  obtain ⟨c, cap3, rfl⟩ := hx.form
  clear hu hx
  rcases h with h | ⟨h, h2⟩ | ⟨h, h2, h3⟩
  all_goals
    go_enter Try.func7, Try.ntmps7
    go_wp2_with fail
    refine (awake_any _).mono ?_
    rintro e w1 ⟨rfl, hb⟩
    have HB := Lib.hid hb
    clear hb
    go_wp2_with fail
    go_ret
    exact ⟨rfl, HB.out⟩

theorem ints_one (w : World) (x : Int) : Ints (w.alloc (.cells #[.int .i64 x] 3)) (.slice (some ⟨w.heap.size, 0, none⟩) 1 1) [x] :=
  ⟨some ⟨w.heap.size, 0, none⟩, 1, rfl, .inr ⟨_, _, rfl, fun i hi => by
    obtain rfl : i = 0 := by simp at hi; exact hi
    simp⟩⟩
theorem below_one {w w0 w' : World} {B : Nat} (h : Below B w w0) (hB : B ≤ w.heap.size) (o : Obj) (h2 : Below (w0.heap.size + 1) (w0.alloc o) w') : Below B w w' :=
  (h.alloc (Nat.le_trans hB h.size) o).trans (h2.mono (by have := h.size; omega))
theorem numsB_one (n : Nat) (x : Int) : numsB n [x] = numB n x.toNat := by simp [numsB]

set_option maxRecDepth 100000 in
set_option maxHeartbeats 2000000 in
theorem joins_few (v u x : Value) (zs : List Int) (ts ls : List ByteArray) (w : World) (hv : IntsOf .u16 w v zs) (hz : ∀ n ∈ zs, (Lit.int .u16 n).wf = true) (hu : Strs w 0 u ts) (hx : Strs w 0 x ls) (h1 : zs.length ≤ 20) (h2 : ts.length ≤ 20) (h3 : ls.length ≤ 20) :
    Calls Try.prog 7 #[v, u, x] w fun e w' => e = .returned (.bool true) ∧ Below w.heap.size w w' := by
  have HV := Lib.hid hv
  have HU := Lib.hid hu
  have HX := Lib.hid hx
  have HZ : Hid (∀ n ∈ zs, 0 ≤ n ∧ n < 65536) := Lib.hid fun n hn => by have := bounds_u16 (hz n hn); omega
  obtain ⟨a, cap, rfl, _⟩ := hv
  obtain ⟨b, cap2, rfl⟩ := hu.form
  obtain ⟨c, cap3, rfl⟩ := hx.form
  clear hu hx hz
  go_enter Try.func7, Try.ntmps7
  go_wp2_with fail
  refine (awake_any _).mono ?_
  rintro e w1 ⟨rfl, hb⟩
  have HB := Lib.hid hb
  clear hb
  go_wp2_with fail
  go_loopw [7, 40] (fun s i wr => ∃ k : Nat, k ≤ zs.length ∧ i = .int .i64 k ∧ s = .string ⟨(numsB 2 (zs.take k)).toArray⟩ ∧ Below w.heap.size w wr) (fun _ i _ => zs.length - (intOf i).toNat)
  case atStart => exact ⟨0, Nat.zero_le _, rfl, rfl, HB.out⟩
  case round =>
    obtain ⟨k, hk, rfl, rfl, hb⟩ := hrel
    have HBR := Lib.hid hb
    clear hb
    obtain ⟨N, hN⟩ : ∃ N, N = numsB 2 (zs.take k) := ⟨_, rfl⟩
    have hNl : N.length ≤ 40 := by
      rw [hN, numsB_length, List.length_take]
      omega
    rw [← hN]
    have HN := Lib.hid hN
    clear hN
    by_cases hlt : k < zs.length
    · obtain ⟨b1, o1, rfl, _, hck⟩ := (HV.out.below HBR.out (Nat.le_refl _)).cellAt hlt
      obtain ⟨y, hy⟩ : ∃ y, zs.getD k 0 = y := ⟨_, rfl⟩
      have hyb := HZ.out y (by rw [← hy]; simp [List.getD_eq_getElem?_getD, List.getElem?_eq_getElem hlt])
      rw [hy] at hck
      have HY := Lib.hid hy
      clear hy
      obtain ⟨hy0, hy1⟩ := hyb
      have HFIT : Hid (∀ q ∈ [y], FitN 2 q) := Lib.hid fun q hq => by
        rw [List.mem_singleton] at hq
        subst hq
        exact ⟨hy0, hy1⟩
      obtain ⟨M, hM⟩ : ∃ M, M = numB 2 y.toNat := ⟨_, rfl⟩
      have hMl : M.length ≤ 2 := by rw [hM, numB_length]; omega
      have HM := Lib.hid hM
      clear hM
      have HONE := Lib.hid (ints_one wr y)
      have HBO := Lib.hid fun w' => below_one (w' := w') HBR.out (Nat.le_refl _) (.cells #[.int .i64 y] 3)
      go_wp2_with fail
      refine (numS_ok 2 _ [y] _ (by omega) (by omega) (by simp) HONE.out HFIT.out).mono ?_
      rintro e w3 ⟨rfl, hb⟩
      rw [numsB_one, ← HM.out]
      have HB3 := Lib.hid (HBO.out w3 (by simpa using hb))
      clear hb
      go_wp2_with fail
      refine ⟨⟨k + 1, by omega, by go_num, ?_, HB3.out⟩, by simp [intOf]; omega⟩
      rw [numsB_snoc 2 zs k hlt, HY.out, append_toArray, HN.out, HM.out]
    · obtain rfl : k = zs.length := by omega
      have hN := HN.out
      rw [List.take_of_length_le (Nat.le_refl _)] at hN
      have HN2 := Lib.hid hN
      clear hN HN
      have HOWN : Hid ((wr.alloc (.cells #[] 9)).ownsRow w.heap.size 9 1 (.slice (some ⟨wr.heap.size, 0, none⟩) 0 0) 0 []) := Lib.hid (World.ownsRow_made (e := 9) (size := 1) wr #[] 0 HBR.out.size (by unfold maxLen; omega) rfl)
      have HBA := Lib.hid (HBR.out.alloc HBR.out.size (.cells #[] 9))
      go_wp2_with (at_builtin; go_must (refine wpList_append_strs rfl _ _ rfl w.heap.size _ _ 0 [] ts rfl rfl HOWN.out (HU.out.below HBA.out (Nat.le_refl _)) (by omega) HBA.out.size ?_))
      intro v1 w4 hown hgr
      have HOWN4 : Hid (w4.ownsRow w.heap.size 9 1 v1 ts.length (ts.map Value.string)) := Lib.hid (by simpa using hown)
      have HB4 := Lib.hid (HBA.out.grown hgr HBA.out.size (fun k e => by cases e; exact HBR.out.size))
      clear hown hgr
      go_wp2_with (at_builtin; go_must (refine wpList_append_strs rfl _ _ rfl w.heap.size _ _ ts.length (ts.map Value.string) ls rfl rfl HOWN4.out (HX.out.below HB4.out (Nat.le_refl _)) (by omega) HB4.out.size ?_))
      intro v2 w5 hown hgr
      obtain ⟨A, hA⟩ : ∃ A, A = ts ++ ls := ⟨_, rfl⟩
      have hAl : A.length ≤ 40 := by rw [hA, List.length_append]; omega
      have hown' : w5.ownsRow w.heap.size 9 1 v2 A.length (A.map Value.string) := by
        rw [hA, List.length_append, List.map_append]; exact hown
      have hsv := strs_own hown'
      have HB5 := Lib.hid (HB4.out.grown hgr HB4.out.size (fun k hk => (HOWN4.out.lt k hk).1))
      have HSV := Lib.hid hsv.zero
      obtain ⟨a3, cap4, rfl⟩ := hsv.form
      have HA := Lib.hid hA
      clear hown hown' hgr hA hsv HOWN HOWN4
      go_wp2_with fail
      go_loop [63] (fun i => ∃ k : Nat, k ≤ A.length ∧ i = .int .i64 k ∧ (∀ t ∈ A.take k, t.size ≤ 1000)) (fun i => A.length - (intOf i).toNat)
      case atStart => exact ⟨0, Nat.zero_le _, rfl, by simp⟩
      case round =>
        obtain ⟨k, hk, rfl, hall⟩ := hrel
        have HALL := Lib.hid hall
        clear hall
        by_cases hlt : k < A.length
        · obtain ⟨b5, o5, rfl, hck⟩ := HSV.out.cellAt hlt
          obtain ⟨t, ht⟩ : ∃ t, t = A.getD k ⟨#[]⟩ := ⟨_, rfl⟩
          rw [← ht] at hck
          have HT := Lib.hid ht
          clear ht
          by_cases hsz : t.size ≤ 1000
          · have HALL2 := Lib.hid (all_snoc hlt HALL.out (by rw [← HT.out]; exact hsz))
            go_wp2_with fail
            exact ⟨⟨k + 1, by omega, by go_num, HALL2.out⟩, by simp [intOf]; omega⟩
          · go_wp2_with fail
            go_ret
            exact ⟨rfl, HB5.out⟩
        · obtain rfl : k = A.length := by omega
          have hall := HALL.out
          rw [List.take_of_length_le (Nat.le_refl _), HA.out] at hall
          have HT2 : Hid (∀ t ∈ ts, t.size ≤ 65535) := Lib.hid fun t ht => Nat.le_trans (hall t (List.mem_append_left _ ht)) (by decide)
          have HT4 : Hid (∀ t ∈ ts, (t.size : Int) ≤ 1000 ∧ t.size ≤ 65535) := Lib.hid fun t ht => ⟨by have := hall t (List.mem_append_left _ ht); omega, HT2.out t ht⟩
          have HL2 : Hid (∀ t ∈ ls, t.size ≤ 65535) := Lib.hid fun t ht => Nat.le_trans (hall t (List.mem_append_right _ ht)) (by decide)
          have HL4 : Hid (∀ t ∈ ls, (t.size : Int) ≤ 1000 ∧ t.size ≤ 65535) := Lib.hid fun t ht => ⟨by have := hall t (List.mem_append_right _ ht); omega, HL2.out t ht⟩
          obtain ⟨T, hT⟩ : ∃ T, T = ts.flatMap txtB := ⟨_, rfl⟩
          have hTl : T.length ≤ 100000 := by
            rw [hT]
            have := flat_small ts fun t ht => hall t (List.mem_append_left _ ht)
            omega
          obtain ⟨M, hM⟩ : ∃ M, M = listB ls := ⟨_, rfl⟩
          have hMl : M.length ≤ 100001 := by
            rw [hM, listB, List.length_append, numB_length]
            have := flat_small ls fun t ht => hall t (List.mem_append_right _ ht)
            omega
          have HT := Lib.hid hT
          have HM := Lib.hid hM
          clear hall hT hM HALL
          go_wp2_with fail
          refine (textW_ok _ ts _ (by omega) HT2.out (HU.out.below HB5.out (Nat.le_refl _))).mono ?_
          rintro e w6 ⟨rfl, hb⟩
          rw [← HT.out]
          have HB6 := Lib.hid (HB5.out.trans (hb.mono HB5.out.size))
          clear hb
          go_wp2_with fail
          refine (listW_ok _ ls _ (by omega) HL2.out (HX.out.below HB6.out (Nat.le_refl _))).mono ?_
          rintro e w7 ⟨rfl, hb⟩
          rw [← HM.out]
          have HB7 := Lib.hid (HB6.out.trans (hb.mono HB6.out.size))
          clear hb HB6
          go_wp2_with fail
          refine (new_post _ _).mono ?_
          rintro e w8 ⟨ba, rfl, hba, hra, hg⟩
          have HBA := Lib.hid (Nat.le_trans HB7.out.size hba)
          have HB8 := Lib.hid (below_grown HB7.out hg (Nat.le_refl _))
          rw [append_toArray, append_toArray, List.append_assoc] at hra
          have HRA := Lib.hid hra
          clear hba hra hg HB7
          go_wp2_with fail
          go_loopw [89] (fun i wr => ∃ k : Nat, k ≤ zs.length ∧ i = .int .i64 k ∧ Rd wr ba ⟨(numsB 2 (zs.drop k) ++ (T ++ M)).toArray⟩ 0 ∧ Below w.heap.size w wr) (fun i _ => zs.length - (intOf i).toNat)
          case atStart => exact ⟨0, Nat.zero_le _, rfl, by rw [List.drop_zero, ← HN2.out]; exact HRA.out, HB8.out⟩
          case round =>
            obtain ⟨k, hk, rfl, hra, hb⟩ := hrel
            have HRA9 := Lib.hid hra
            have HB9 := Lib.hid hb
            clear hra hb
            by_cases hlt : k < zs.length
            · obtain ⟨b6, o6, rfl, _, hck⟩ := (HV.out.below HB9.out (Nat.le_refl _)).cellAt hlt
              obtain ⟨y, hy⟩ : ∃ y, zs.getD k 0 = y := ⟨_, rfl⟩
              have hyb := HZ.out y (by rw [← hy]; simp [List.getD_eq_getElem?_getD, List.getElem?_eq_getElem hlt])
              obtain ⟨q, rfl⟩ := Int.eq_ofNat_of_zero_le hyb.1
              have hc := numS_read 2 q (by omega) (by omega) (by omega) (numsB 2 (zs.drop (k + 1)) ++ (T ++ M))
              have hc2 := numsB_cons 2 zs k hlt
              rw [hy, Int.toNat_natCast] at hc2
              rw [← List.append_assoc, ← hc2] at hc
              rw [hy] at hck
              have HC := Lib.hid hc
              have hq : q < 65536 := by omega
              clear hc hc2 hy hyb
              go_wp2_with fail
              refine (num_any _ _ _ _ HRA9.out HC.out).mono ?_
              rintro e w10 ⟨rfl, hr, hg⟩
              have HR10 := Lib.hid hr
              have HB10 := Lib.hid (below_grown' HB9.out hg (Nat.le_refl _) HBA.out)
              clear hr hg
              go_wp2_with fail
              exact ⟨⟨k + 1, by omega, by go_num, HR10.out, HB10.out⟩, by simp [intOf]; omega⟩
            · obtain rfl : k = zs.length := by omega
              have hr := HRA9.out
              rw [List.drop_of_length_le (Nat.le_refl _), HT.out] at hr
              have HRA10 := Lib.hid (show Rd _ ba ⟨(ts.flatMap txtB ++ M).toArray⟩ 0 from hr)
              clear hr HRA9
              go_wp2_with fail
              go_loopw [101] (fun i wr => ∃ k : Nat, k ≤ ts.length ∧ i = .int .i64 k ∧ Rd wr ba ⟨((ts.drop k).flatMap txtB ++ M).toArray⟩ 0 ∧ Below w.heap.size w wr) (fun i _ => ts.length - (intOf i).toNat)
              case atStart => exact ⟨0, Nat.zero_le _, rfl, HRA10.out, HB9.out⟩
              case round =>
                obtain ⟨k, hk, rfl, hra, hb⟩ := hrel
                have HRA := Lib.hid hra
                have HB10 := Lib.hid hb
                clear hra hb
                by_cases hlt : k < ts.length
                · obtain ⟨b7, o7, rfl, hck⟩ := (HU.out.below HB10.out (Nat.le_refl _)).cellAt hlt
                  have hc := textS_read (ts.getD k ⟨#[]⟩) ((ts.drop (k + 1)).flatMap txtB ++ M) 1000 (HT4.out _ (mem_getD hlt)).1 (HT4.out _ (mem_getD hlt)).2
                  rw [← flat_drop ts k hlt M] at hc
                  obtain ⟨t, ht⟩ : ∃ t, t = ts.getD k ⟨#[]⟩ := ⟨_, rfl⟩
                  rw [← ht] at hck hc
                  have HC := Lib.hid hc
                  clear hc ht
                  go_wp2_with fail
                  refine (text_any _ _ _ _ HRA.out HC.out).mono ?_
                  rintro e w11 ⟨rfl, hr, hg⟩
                  have HR11 := Lib.hid hr
                  have HB11 := Lib.hid (below_grown' HB10.out hg (Nat.le_refl _) HBA.out)
                  clear hr hg
                  go_wp2_with fail
                  exact ⟨⟨k + 1, by omega, by go_num, HR11.out, HB11.out⟩, by simp [intOf]; omega⟩
                · obtain rfl : k = ts.length := by omega
                  have hr := HRA.out
                  rw [List.drop_of_length_le (Nat.le_refl _)] at hr
                  have HRA11 := Lib.hid (show Rd _ ba ⟨M.toArray⟩ 0 from hr)
                  have hc := listS_read ls [] 20 1000 (by omega) (by omega) HL4.out
                  rw [← HM.out, List.append_nil] at hc
                  have HC := Lib.hid hc
                  have HTS : Hid (ls.length ≤ 1000000) := Lib.hid (by omega)
                  clear hr hc HRA
                  go_wp2_with fail
                  refine (list_any _ _ _ _ _ HRA11.out HC.out).mono ?_
                  rintro e w12 ⟨v, rfl, hv, hr, hg⟩
                  have HV12 := Lib.hid hv.zero
                  have HR12 : Hid (Rd w12 ba ⟨#[]⟩ 0) := Lib.hid hr
                  have HB12 := Lib.hid (below_grown' HB10.out hg (Nat.le_refl _) HBA.out)
                  clear hv hr hg HRA11
                  go_wp2_with fail
                  refine (same_any _ _ ls ls _ HV12.out (HX.out.below HB12.out (Nat.le_refl _)) HTS.out).mono ?_
                  rintro e w13 ⟨rfl, d, rfl⟩
                  rw [decide_eq_true (show ls = ls from rfl)]
                  have HR13 := Lib.hid (HR12.out.drewN d)
                  have HB13 := Lib.hid (below_grown' HB12.out (grownBy_drewN _ d (some ba)) (Nat.le_refl _) HBA.out)
                  clear HV12 HR12 HB12
                  go_wp2_with fail
                  refine (end_any _ _ _ _ HR13.out).mono ?_
                  rintro e w14 ⟨rfl, rfl⟩
                  rw [show endE ⟨#[]⟩ 0 = 0 from rfl]
                  go_wp2_with fail
                  go_ret
                  exact ⟨rfl, HB13.out⟩

theorem walk_OctetJoins (v : Value) (zs : List Int) (u : Value) (ts : List ByteArray) (x : Value) (ls : List ByteArray) (w : World) (hv : IntsOf .u16 w v zs) (hz : ∀ n ∈ zs, (Lit.int .u16 n).wf = true) (hu : Strs w 0 u ts) (hx : Strs w 0 x ls) :
    Calls Try.prog 7 #[v, u, x] w fun e w' => e = .returned (.bool true) ∧ Below w.heap.size w w' := by
  rcases Nat.lt_or_ge 20 zs.length with h1 | h1
  · exact joins_many v u x zs ts ls w hv hu hx (.inl h1)
  rcases Nat.lt_or_ge 20 ts.length with h2 | h2
  · exact joins_many v u x zs ts ls w hv hu hx (.inr (.inl ⟨h1, h2⟩))
  rcases Nat.lt_or_ge 20 ls.length with h3 | h3
  · exact joins_many v u x zs ts ls w hv hu hx (.inr (.inr ⟨h1, h2, h3⟩))
  exact joins_few v u x zs ts ls w hv hz hu hx h1 h2 h3
end Go.Proofs.Ytjkcahandfacoaa
