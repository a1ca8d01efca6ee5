/-
  EntryGets, walked. (Printed by mk_entj.py.)
-/
import Derived.Test.YtcbjlleigbnogaaEntH
namespace Go.Proofs.Ytcbjlleigbnogaa
open Go.RowKit Go.Deep
set_option linter.unusedVariables false
set_option linter.unusedSimpArgs false

theorem bytesK_of (s : ByteArray) (ws : List Nat) (xs : List Int) (hx : ∀ k, k < 4 → xs.getD k 0 = (numAt s ws k : Nat)) (hs : offK ws 4 ≤ s.size) : ∀ k, k ≤ 4 → bytesK ws xs k = s.data.toList.take (offK ws k)
  | 0, _ => by simp [bytesK, offK]
  | k + 1, h => by
    have h1 := offK_mono ws (k + 1) 4 h
    have h2 : offK ws (k + 1) = offK ws k + ws.getD k 0 := rfl
    have h3 : s.data.toList.length = s.size := rfl
    have hl : ((s.data.toList.drop (offK ws k)).take (ws.getD k 0)).length = ws.getD k 0 := by
      rw [List.length_take, List.length_drop, h3]; omega
    rw [bytesK, bytesK_of s ws xs hx hs k (by omega), hx k (by omega), Int.toNat_natCast, h2, List.take_add]
    congr 1
    unfold numAt
    have := numB_getN ((s.data.toList.drop (offK ws k)).take (ws.getD k 0))
    rw [hl] at this
    exact this
theorem get_back {s : ByteArray} {ws : List Nat} (hs : s.size = offK ws 4) : getOk s ws = true ∧ ∃ g0 g1 g2 g3, (get4 s ws 0 = g0 ∧ get4 s ws 1 = g1 ∧ get4 s ws 2 = g2 ∧ get4 s ws 3 = g3) ∧ put4 ws [g0, g1, g2, g3] = s ∧ fit4 ws [g0, g1, g2, g3] = true := by
  have hok : getOk s ws = true := decide_eq_true hs
  have hg : ∀ k, get4 s ws k = (numAt s ws k : Nat) := fun k => by unfold get4; rw [if_pos hok]
  refine ⟨hok, _, _, _, _, ⟨rfl, rfl, rfl, rfl⟩, ?_⟩
  have hx : ∀ k, k < 4 → [get4 s ws 0, get4 s ws 1, get4 s ws 2, get4 s ws 3].getD k 0 = (numAt s ws k : Nat) := fun k hk => by
    match k, hk with
    | 0, _ => exact hg 0
    | 1, _ => exact hg 1
    | 2, _ => exact hg 2
    | 3, _ => exact hg 3
  have hf : fit4 ws [get4 s ws 0, get4 s ws 1, get4 s ws 2, get4 s ws 3] = true := fit4_iff.2 fun k hk => by
    rw [hx k hk]
    have h1 := offK_mono ws (k + 1) 4 hk
    have h2 : offK ws (k + 1) = offK ws k + ws.getD k 0 := rfl
    have h3 : s.data.toList.length = s.size := rfl
    have hl : ((s.data.toList.drop (offK ws k)).take (ws.getD k 0)).length = ws.getD k 0 := by
      rw [List.length_take, List.length_drop, h3]; omega
    have := getN_fit ((s.data.toList.drop (offK ws k)).take (ws.getD k 0))
    rw [hl] at this
    exact this
  refine ⟨?_, hf⟩
  unfold put4
  rw [if_pos hf, bytesK_of s ws _ hx (by omega) 4 (Nat.le_refl _), ← hs, show s.size = s.data.toList.length from rfl, List.take_length]
theorem get_none4 {s : ByteArray} {ws : List Nat} (hs : s.size ≠ offK ws 4) : getOk s ws = false ∧ ∀ k, get4 s ws k = 0 := by
  have hok : getOk s ws = false := decide_eq_false hs
  exact ⟨hok, fun k => by unfold get4; rw [hok]; rfl⟩

/-- The rest of the law, from Cut on: the pieces together are all. -/
theorem piece_size {s : ByteArray} {i : Nat} (h : i < s.size / 20) : (piece s i).size = 20 := by
  unfold piece
  rw [ByteArray.size_extract]
  omega
theorem extract_on (s : ByteArray) (k : Nat) : s.extract 0 (k * 20) ++ piece s k = s.extract 0 ((k + 1) * 20) := by
  unfold piece
  rw [ByteArray.extract_append_extract]
  congr 1 <;> omega

set_option maxRecDepth 100000 in
set_option maxHeartbeats 4000000 in
theorem walk_EntryGets (s : ByteArray) (w : World) (_h : s.size ≤ maxLen) :
    Calls Try.prog 4 #[.string s] w fun e w' => e = .returned (.bool true) ∧ Below w.heap.size w w' := by
  by_cases h2000 : 2000 < s.size
  · go_enter Try.func4, Try.ntmps4
    go_wp2_with fail
    refine (eawake_any _).mono ?_
    rintro e w1 ⟨rfl, hb⟩
    have HB1 := Lib.hid hb
    clear hb
    go_wp2_with fail
    go_ret
    exact ⟨rfl, HB1.out⟩
  by_cases h20 : s.size = 20
  · have hyes : s.size = 20 := h20
    obtain ⟨hg0, g00, g01, g02, g03, hv0, hp0, hf0⟩ := get_back (s := s) (ws := [6, 2, 5, 7]) h20
    have HG0 := Lib.hid hg0
    have HV0 := Lib.hid hv0
    have HP0 := Lib.hid hp0
    have HF0 := Lib.hid hf0
    clear hg0 hv0 hp0 hf0
    obtain ⟨hg1, g10, g11, g12, g13, hv1, hp1, hf1⟩ := get_back (s := s) (ws := [5, 6, 6, 3]) h20
    have HG1 := Lib.hid hg1
    have HV1 := Lib.hid hv1
    have HP1 := Lib.hid hp1
    have HF1 := Lib.hid hf1
    clear hg1 hv1 hp1 hf1
    obtain ⟨hg2, g20, g21, g22, g23, hv2, hp2, hf2⟩ := get_back (s := s) (ws := [6, 6, 6, 2]) h20
    have HG2 := Lib.hid hg2
    have HV2 := Lib.hid hv2
    have HP2 := Lib.hid hp2
    have HF2 := Lib.hid hf2
    clear hg2 hv2 hp2 hf2
    have e20 : ((s.size : Int) == 20) = true := by rw [h20]; rfl
    have hle : (s.size : Int) = 20 := by omega
    have H20 := Lib.hid h20
    clear h20 hyes
    go_enter Try.func4, Try.ntmps4
    go_wp2_with fail
    refine (eawake_any _).mono ?_
    rintro e w1 ⟨rfl, hb⟩
    have HB1 := Lib.hid hb
    clear hb
    go_wp2_with fail
    refine (placeGet_any s _).mono ?_
    rintro e w2 ⟨he, hb⟩
    rw [HG0.out, HV0.out.1, HV0.out.2.1, HV0.out.2.2.1, HV0.out.2.2.2] at he
    subst he
    have hb2 := below_on hb HB1.out (Nat.le_refl _)
    have hx2 : Below w.heap.size w (w2.alloc (.cells #[.int .i64 g00, .int .i64 g01, .int .i64 g02, .int .i64 g03] 23)) := hb2.alloc hb2.size _
    have hj : Holds (w2.alloc (.cells #[.int .i64 g00, .int .i64 g01, .int .i64 g02, .int .i64 g03] 23)) w2.heap.size #[.int .i64 g00, .int .i64 g01, .int .i64 g02, .int .i64 g03] := holds_new _ _ _ _ rfl
    have HB2 := Lib.hid hx2
    have J0 := Lib.hid hj
    clear hb hb2 hx2 hj
    go_wp2_with fail
    refine (linkGet_any s _).mono ?_
    rintro e w3 ⟨he, hb⟩
    rw [HG1.out, HV1.out.1, HV1.out.2.1, HV1.out.2.2.1, HV1.out.2.2.2] at he
    subst he
    have hb3 := below_on hb HB2.out (Nat.le_refl _)
    have j0 := Holds.on J0.out hb (Holds.lt J0.out (Nat.zero_lt_succ _))
    have hx3 : Below w.heap.size w (w3.alloc (.cells #[.int .i64 g10, .int .i64 g11, .int .i64 g12, .int .i64 g13] 25)) := hb3.alloc hb3.size _
    have hj : Holds (w3.alloc (.cells #[.int .i64 g10, .int .i64 g11, .int .i64 g12, .int .i64 g13] 25)) w3.heap.size #[.int .i64 g10, .int .i64 g11, .int .i64 g12, .int .i64 g13] := holds_new _ _ _ _ rfl
    have hj0 : Holds (w3.alloc (.cells #[.int .i64 g10, .int .i64 g11, .int .i64 g12, .int .i64 g13] 25)) w2.heap.size #[.int .i64 g00, .int .i64 g01, .int .i64 g02, .int .i64 g03] := Holds.old j0 (Holds.lt j0 (Nat.zero_lt_succ _)) _
    have HB3 := Lib.hid hx3
    have J1 := Lib.hid hj
    have J0 := Lib.hid hj0
    clear hb hb3 hx3 hj j0 hj0
    go_wp2_with fail
    refine (markGet_any s _).mono ?_
    rintro e w4 ⟨he, hb⟩
    rw [HG2.out, HV2.out.1, HV2.out.2.1, HV2.out.2.2.1, HV2.out.2.2.2] at he
    subst he
    have hb4 := below_on hb HB3.out (Nat.le_refl _)
    have j0 := Holds.on J0.out hb (Holds.lt J0.out (Nat.zero_lt_succ _))
    have j1 := Holds.on J1.out hb (Holds.lt J1.out (Nat.zero_lt_succ _))
    have hx4 : Below w.heap.size w (w4.alloc (.cells #[.int .i64 g20, .int .i64 g21, .int .i64 g22, .int .i64 g23] 27)) := hb4.alloc hb4.size _
    have hj : Holds (w4.alloc (.cells #[.int .i64 g20, .int .i64 g21, .int .i64 g22, .int .i64 g23] 27)) w4.heap.size #[.int .i64 g20, .int .i64 g21, .int .i64 g22, .int .i64 g23] := holds_new _ _ _ _ rfl
    have hj0 : Holds (w4.alloc (.cells #[.int .i64 g20, .int .i64 g21, .int .i64 g22, .int .i64 g23] 27)) w2.heap.size #[.int .i64 g00, .int .i64 g01, .int .i64 g02, .int .i64 g03] := Holds.old j0 (Holds.lt j0 (Nat.zero_lt_succ _)) _
    have hj1 : Holds (w4.alloc (.cells #[.int .i64 g20, .int .i64 g21, .int .i64 g22, .int .i64 g23] 27)) w3.heap.size #[.int .i64 g10, .int .i64 g11, .int .i64 g12, .int .i64 g13] := Holds.old j1 (Holds.lt j1 (Nat.zero_lt_succ _)) _
    have HB4 := Lib.hid hx4
    have J2 := Lib.hid hj
    have J0 := Lib.hid hj0
    have J1 := Lib.hid hj1
    clear hb hb4 hx4 hj j0 hj0 j1 hj1
    have j0 := J0.out
    unfold Holds at j0
    have j1 := J1.out
    unfold Holds at j1
    have j2 := J2.out
    unfold Holds at j2
    go_wp2_with fail
    refine (placePut_any g00 g01 g02 g03 _).mono ?_
    rintro e w5 ⟨rfl, hb⟩
    rw [HP0.out, HF0.out]
    have HB5 := Lib.hid (below_on hb HB4.out (Nat.le_refl _))
    clear j0 j1 j2
    have j0 := Holds.on J0.out hb (Holds.lt J0.out (Nat.zero_lt_succ _))
    have J0 := Lib.hid j0
    unfold Holds at j0
    have j1 := Holds.on J1.out hb (Holds.lt J1.out (Nat.zero_lt_succ _))
    have J1 := Lib.hid j1
    unfold Holds at j1
    have j2 := Holds.on J2.out hb (Holds.lt J2.out (Nat.zero_lt_succ _))
    have J2 := Lib.hid j2
    unfold Holds at j2
    clear hb
    go_wp2_with fail
    refine (linkPut_any g10 g11 g12 g13 _).mono ?_
    rintro e w6 ⟨rfl, hb⟩
    rw [HP1.out, HF1.out]
    have HB6 := Lib.hid (below_on hb HB5.out (Nat.le_refl _))
    clear j0 j1 j2
    have j0 := Holds.on J0.out hb (Holds.lt J0.out (Nat.zero_lt_succ _))
    have J0 := Lib.hid j0
    unfold Holds at j0
    have j1 := Holds.on J1.out hb (Holds.lt J1.out (Nat.zero_lt_succ _))
    have J1 := Lib.hid j1
    unfold Holds at j1
    have j2 := Holds.on J2.out hb (Holds.lt J2.out (Nat.zero_lt_succ _))
    have J2 := Lib.hid j2
    unfold Holds at j2
    clear hb
    go_wp2_with fail
    refine (markPut_any g20 g21 g22 g23 _).mono ?_
    rintro e w7 ⟨rfl, hb⟩
    rw [HP2.out, HF2.out]
    have HB7 := Lib.hid (below_on hb HB6.out (Nat.le_refl _))
    clear j0 j1 j2
    have j0 := Holds.on J0.out hb (Holds.lt J0.out (Nat.zero_lt_succ _))
    have J0 := Lib.hid j0
    unfold Holds at j0
    have j1 := Holds.on J1.out hb (Holds.lt J1.out (Nat.zero_lt_succ _))
    have J1 := Lib.hid j1
    unfold Holds at j1
    have j2 := Holds.on J2.out hb (Holds.lt J2.out (Nat.zero_lt_succ _))
    have J2 := Lib.hid j2
    unfold Holds at j2
    clear hb
    clear j0 j1 j2
    go_wp2_with fail
    refine (ecut_any s (by omega) _).mono ?_
    intro e w9 hcut
    unfold CutPost at hcut
    by_cases hm0 : s.size % 20 = 0
    · rw [if_pos hm0] at hcut
      obtain ⟨⟨v, rfl, hv⟩, hb⟩ := hcut
      obtain ⟨va, vc, hve⟩ := hv.form
      subst hve
      have HB9 := Lib.hid (below_on hb HB7.out (Nat.le_refl _))
      obtain ⟨N, hN⟩ : ∃ N, N = s.size / 20 := ⟨_, rfl⟩
      have hl : (pieces s).length = N := by unfold pieces; rw [List.length_map, List.length_range, hN]
      have hsN : s.size = N * 20 := by omega
      have hNb : N ≤ 100 := by omega
      have e1 : ((s.size : Int) % 20) = 0 := by omega
      have HV9 := Lib.hid hv
      rw [hl]
      have HL := Lib.hid hl
      have HN := Lib.hid hN
      have HSN := Lib.hid hsN
      clear hb hv hl hN hsN hm0
      go_wp2_with fail
      go_loop [17, 121] (fun t i => ∃ k : Nat, k ≤ N ∧ i = .int .i64 k ∧ t = .string (s.extract 0 (k * 20))) (fun _ i => N - (intOf i).toNat)
      case atStart => exact ⟨0, Nat.zero_le _, rfl, by simp; rfl⟩
      case round =>
        obtain ⟨k, hk, rfl, rfl⟩ := hrel
        by_cases hlt : k < N
        · obtain ⟨vb, vo, rfl, hcell⟩ := HV9.out.cellAt (i := k) (by rw [HL.out]; exact hlt)
          rw [pieces_getD s k (by rw [← HN.out]; exact hlt)] at hcell
          have hps : (piece s k).size = 20 := piece_size (by rw [← HN.out]; exact hlt)
          have hex := extract_on s k
          obtain ⟨y, hy⟩ : ∃ y, y = piece s k := ⟨_, rfl⟩
          obtain ⟨x, hx⟩ : ∃ x, x = s.extract 0 (k * 20) := ⟨_, rfl⟩
          have hxs : x.size ≤ 2000 := by rw [hx, ByteArray.size_extract]; omega
          rw [← hy] at hcell hps hex
          rw [← hx] at hex ⊢
          have e2 : (y.size : Int) = 20 := by omega
          have HEX := Lib.hid hex
          have HY := Lib.hid hy
          have HX := Lib.hid hx
          clear hex hy hx hps
          go_wp2_with fail
          go_round
          case rel => exact ⟨k + 1, by omega, by go_num, by rw [HEX.out]⟩
          case measure => simp [intOf]; omega
        · obtain rfl : k = N := by omega
          have hall : s.extract 0 (k * 20) = s := by rw [← HSN.out]; exact ByteArray.extract_zero_size
          rw [hall]
          clear hall
          go_wp2_with fail
          go_ret
          exact ⟨rfl, HB9.out⟩
    · exfalso; omega
  · have hno := h20
    have HG0 := Lib.hid (get_none4 (s := s) (ws := [6, 2, 5, 7]) h20)
    have HG1 := Lib.hid (get_none4 (s := s) (ws := [5, 6, 6, 3]) h20)
    have HG2 := Lib.hid (get_none4 (s := s) (ws := [6, 6, 6, 2]) h20)
    have hne : ¬ (s.size : Int) = 20 := by omega
    have e20 : ((s.size : Int) == 20) = false := by simpa using hne
    clear h20 hno
    go_enter Try.func4, Try.ntmps4
    go_wp2_with fail
    refine (eawake_any _).mono ?_
    rintro e w1 ⟨rfl, hb⟩
    have HB1 := Lib.hid hb
    clear hb
    go_wp2_with fail
    refine (placeGet_any s _).mono ?_
    rintro e w2 ⟨he, hb⟩
    rw [HG0.out.1, HG0.out.2 0, HG0.out.2 1, HG0.out.2 2, HG0.out.2 3] at he
    subst he
    have hb2 := below_on hb HB1.out (Nat.le_refl _)
    have hx2 : Below w.heap.size w (w2.alloc (.cells #[.int .i64 0, .int .i64 0, .int .i64 0, .int .i64 0] 23)) := hb2.alloc hb2.size _
    have hj : Holds (w2.alloc (.cells #[.int .i64 0, .int .i64 0, .int .i64 0, .int .i64 0] 23)) w2.heap.size #[.int .i64 0, .int .i64 0, .int .i64 0, .int .i64 0] := holds_new _ _ _ _ rfl
    have HB2 := Lib.hid hx2
    have J0 := Lib.hid hj
    clear hb hb2 hx2 hj
    go_wp2_with fail
    refine (linkGet_any s _).mono ?_
    rintro e w3 ⟨he, hb⟩
    rw [HG1.out.1, HG1.out.2 0, HG1.out.2 1, HG1.out.2 2, HG1.out.2 3] at he
    subst he
    have hb3 := below_on hb HB2.out (Nat.le_refl _)
    have j0 := Holds.on J0.out hb (Holds.lt J0.out (Nat.zero_lt_succ _))
    have hx3 : Below w.heap.size w (w3.alloc (.cells #[.int .i64 0, .int .i64 0, .int .i64 0, .int .i64 0] 25)) := hb3.alloc hb3.size _
    have hj : Holds (w3.alloc (.cells #[.int .i64 0, .int .i64 0, .int .i64 0, .int .i64 0] 25)) w3.heap.size #[.int .i64 0, .int .i64 0, .int .i64 0, .int .i64 0] := holds_new _ _ _ _ rfl
    have hj0 : Holds (w3.alloc (.cells #[.int .i64 0, .int .i64 0, .int .i64 0, .int .i64 0] 25)) w2.heap.size #[.int .i64 0, .int .i64 0, .int .i64 0, .int .i64 0] := Holds.old j0 (Holds.lt j0 (Nat.zero_lt_succ _)) _
    have HB3 := Lib.hid hx3
    have J1 := Lib.hid hj
    have J0 := Lib.hid hj0
    clear hb hb3 hx3 hj j0 hj0
    go_wp2_with fail
    refine (markGet_any s _).mono ?_
    rintro e w4 ⟨he, hb⟩
    rw [HG2.out.1, HG2.out.2 0, HG2.out.2 1, HG2.out.2 2, HG2.out.2 3] at he
    subst he
    have hb4 := below_on hb HB3.out (Nat.le_refl _)
    have j0 := Holds.on J0.out hb (Holds.lt J0.out (Nat.zero_lt_succ _))
    have j1 := Holds.on J1.out hb (Holds.lt J1.out (Nat.zero_lt_succ _))
    have hx4 : Below w.heap.size w (w4.alloc (.cells #[.int .i64 0, .int .i64 0, .int .i64 0, .int .i64 0] 27)) := hb4.alloc hb4.size _
    have hj : Holds (w4.alloc (.cells #[.int .i64 0, .int .i64 0, .int .i64 0, .int .i64 0] 27)) w4.heap.size #[.int .i64 0, .int .i64 0, .int .i64 0, .int .i64 0] := holds_new _ _ _ _ rfl
    have hj0 : Holds (w4.alloc (.cells #[.int .i64 0, .int .i64 0, .int .i64 0, .int .i64 0] 27)) w2.heap.size #[.int .i64 0, .int .i64 0, .int .i64 0, .int .i64 0] := Holds.old j0 (Holds.lt j0 (Nat.zero_lt_succ _)) _
    have hj1 : Holds (w4.alloc (.cells #[.int .i64 0, .int .i64 0, .int .i64 0, .int .i64 0] 27)) w3.heap.size #[.int .i64 0, .int .i64 0, .int .i64 0, .int .i64 0] := Holds.old j1 (Holds.lt j1 (Nat.zero_lt_succ _)) _
    have HB4 := Lib.hid hx4
    have J2 := Lib.hid hj
    have J0 := Lib.hid hj0
    have J1 := Lib.hid hj1
    clear hb hb4 hx4 hj j0 hj0 j1 hj1
    have j0 := J0.out
    unfold Holds at j0
    have j1 := J1.out
    unfold Holds at j1
    have j2 := J2.out
    unfold Holds at j2
    go_wp2_with fail
    refine (ecut_any s (by omega) _).mono ?_
    intro e w9 hcut
    unfold CutPost at hcut
    by_cases hm0 : s.size % 20 = 0
    · rw [if_pos hm0] at hcut
      obtain ⟨⟨v, rfl, hv⟩, hb⟩ := hcut
      obtain ⟨va, vc, hve⟩ := hv.form
      subst hve
      have HB9 := Lib.hid (below_on hb HB4.out (Nat.le_refl _))
      obtain ⟨N, hN⟩ : ∃ N, N = s.size / 20 := ⟨_, rfl⟩
      have hl : (pieces s).length = N := by unfold pieces; rw [List.length_map, List.length_range, hN]
      have hsN : s.size = N * 20 := by omega
      have hNb : N ≤ 100 := by omega
      have e1 : ((s.size : Int) % 20) = 0 := by omega
      have HV9 := Lib.hid hv
      rw [hl]
      have HL := Lib.hid hl
      have HN := Lib.hid hN
      have HSN := Lib.hid hsN
      clear hb hv hl hN hsN hm0
      go_wp2_with fail
      go_loop [17, 121] (fun t i => ∃ k : Nat, k ≤ N ∧ i = .int .i64 k ∧ t = .string (s.extract 0 (k * 20))) (fun _ i => N - (intOf i).toNat)
      case atStart => exact ⟨0, Nat.zero_le _, rfl, by simp; rfl⟩
      case round =>
        obtain ⟨k, hk, rfl, rfl⟩ := hrel
        by_cases hlt : k < N
        · obtain ⟨vb, vo, rfl, hcell⟩ := HV9.out.cellAt (i := k) (by rw [HL.out]; exact hlt)
          rw [pieces_getD s k (by rw [← HN.out]; exact hlt)] at hcell
          have hps : (piece s k).size = 20 := piece_size (by rw [← HN.out]; exact hlt)
          have hex := extract_on s k
          obtain ⟨y, hy⟩ : ∃ y, y = piece s k := ⟨_, rfl⟩
          obtain ⟨x, hx⟩ : ∃ x, x = s.extract 0 (k * 20) := ⟨_, rfl⟩
          have hxs : x.size ≤ 2000 := by rw [hx, ByteArray.size_extract]; omega
          rw [← hy] at hcell hps hex
          rw [← hx] at hex ⊢
          have e2 : (y.size : Int) = 20 := by omega
          have HEX := Lib.hid hex
          have HY := Lib.hid hy
          have HX := Lib.hid hx
          clear hex hy hx hps
          go_wp2_with fail
          go_round
          case rel => exact ⟨k + 1, by omega, by go_num, by rw [HEX.out]⟩
          case measure => simp [intOf]; omega
        · obtain rfl : k = N := by omega
          have hall : s.extract 0 (k * 20) = s := by rw [← HSN.out]; exact ByteArray.extract_zero_size
          rw [hall]
          clear hall
          go_wp2_with fail
          go_ret
          exact ⟨rfl, HB9.out⟩
    · rw [if_neg hm0] at hcut
      obtain ⟨rfl, hw⟩ := hcut
      subst hw
      have e1 : ¬ ((s.size : Int) % 20) = 0 := by omega
      have e2 : (((s.size : Int) % 20) == 0) = false := by simpa using e1
      clear hm0 e1
      go_wp2_with fail
      go_ret
      exact ⟨rfl, HB4.out⟩
end Go.Proofs.Ytcbjlleigbnogaa
