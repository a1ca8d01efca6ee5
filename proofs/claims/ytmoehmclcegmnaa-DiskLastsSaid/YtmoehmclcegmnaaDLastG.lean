/-
  The walk of DiskLasts.
-/
import Derived.Test.YtmoehmclcegmnaaDLastW
namespace Go.Proofs.Ytmoehmclcegmnaa
open Go.RowKit Go.Deep
attribute [local go_sem] fr_opt

theorem all_up {w2 : World} {n d : Nat} {g : Gh} {st : St} {s : ByteArray} (hk : Keep n s st) (hq : d = w2.heap.size) (hd : st.down = false) (W : World) (h : AwG w2 W g st) :
    Calls Try.prog 13 #[.pointer (some ⟨d, 0, none⟩), .string kF] W fun e w' => e = .returned (.tuple #[.string s, .int .i64 0]) ∧ AwG w2 w' g st := by
  have := all_keep hk W h
  rw [hd] at this
  rw [hq]
  exact this
theorem all_dn {w2 : World} {n d : Nat} {g : Gh} {st : St} {s : ByteArray} (hk : Keep n s st) (hq : d = w2.heap.size) (hd : st.down = true) (W : World) (h : AwG w2 W g st) :
    Calls Try.prog 13 #[.pointer (some ⟨d, 0, none⟩), .string kF] W fun e w' => e = .returned (.tuple #[.string ⟨#[]⟩, .int .i64 8]) ∧ AwG w2 w' g st := by
  have := all_keep hk W h
  rw [hd] at this
  rw [hq]
  exact this
theorem down_is {w2 : World} {d : Nat} {g : Gh} {st : St} {b : Bool} (hq : d = w2.heap.size) (hd : st.down = b) (W : World) (h : AwG w2 W g st) :
    Calls Try.prog 14 #[.pointer (some ⟨d, 0, none⟩)] W fun e w' => e = .returned (.bool b) ∧ AwG w2 w' g st := by
  have := down_keep W h
  rw [hd] at this
  rw [hq]
  exact this
theorem kF_toList : kF.toList = [107, 101, 101, 112, 32, 116, 104, 105, 115, 32, 115, 97, 102, 101] := by rw [ByteArray.toList_eq]; rfl
set_option maxHeartbeats 4000000 in
set_option maxRecDepth 100000 in
theorem walk_DiskLasts (s : ByteArray) (v : Value) (os : List OpM) (w : World) (hs0 : s.size ≤ maxLen) (h : OpsAt w v os) (hl : os.length ≤ maxLen)
    (hm : ∀ x ∈ os, x.at_ ≤ 9223372036854775807 ∧ LowV w x.vn ∧ LowV w x.vk) :
    Calls Try.prog 3 #[.string s, v] w (RoomTo w) := by
  obtain ⟨a, cap, hv, hcells⟩ := id h
  obtain ⟨n, hn⟩ : ∃ n, n = os.length := ⟨_, rfl⟩
  rw [← hn] at hv
  subst hv
  have HN := Lib.hid hn
  have HC := Lib.hid hcells
  have HO := Lib.hid h
  have HM := Lib.hid hm
  clear hn hcells h hm
  unfold maxLen at hs0
  go_enter Try.func3, Try.ntmps3
  go_wp2_with (go_at_call 6; refine (awake_any _).mono ?_; rintro e w1 ⟨rfl, hc1⟩)
  have HC1 := Lib.hid hc1
  clear hc1
  go_wp2_with (go_at_call 7; refine (great_any _ os _ (HO.out.new (by first | exact HC1.out | exact HC1.out.drew)) hl).mono ?_)
  rintro e w2 ⟨b, rfl, hc2, hsm⟩
  cases b with
  | true =>
    go_wp2_with fail
    go_ret
    exact ⟨rfl, HC1.out.trans hc2 (fun _ _ x => x)⟩
  | false =>
    by_cases h300 : 300 < s.size
    · go_wp2_with fail
      go_ret
      exact ⟨rfl, HC1.out.trans hc2 (fun _ _ x => x)⟩
    have hs3 : s.size ≤ 300 := by omega
    obtain ⟨h100, hsmall⟩ := hsm rfl
    have hn100 : n ≤ 100 := by rw [HN.out]; exact h100
    have HSM := Lib.hid hsmall
    have hcw : Chg (fun _ => False) w w2 := HC1.out.trans hc2 (fun _ _ x => x)
    have HCW := Lib.hid hcw
    clear hsmall hsm hc2 hcw h100
    go_wp2_with (go_at_call 8; refine (new_any 100000 _).mono ?_)
    rintro e w3 ⟨rfl, hd0, hb0⟩
    obtain ⟨d, hd⟩ : ∃ d, d = w2.heap.size := ⟨_, rfl⟩
    have HA : Hid (AwG w2 w3 ⟨w2.heap.size, none, []⟩ (newSt 100000)) := AwG.start hd0 hb0
    have HD := Lib.hid hd
    clear hd0 hb0
    go_wp2_with fail
    refine (k_create (by first | exact HA.out | exact HA.out.drew)).mono ?_
    rintro e w4 ⟨rfl, g4, ha4⟩
    have HA4 := Lib.hid ha4
    clear ha4 HA
    go_wp2_with fail
    refine (k_write s hs3 (by first | exact HA4.out | exact HA4.out.drew)).mono ?_
    rintro e w5 ⟨rfl, g5, ha5⟩
    have HA5 := Lib.hid ha5
    clear ha5 HA4
    go_wp2_with fail
    have hc3 : Chg (fun _ => False) w5 (w5.alloc (.cells #[.string kF] 9)) := Chg.alloc _ (Chg.refl _ _) _
    have hcell : (w5.alloc (.cells #[.string kF] 9)).cell? ⟨w5.heap.size, 0, none⟩ = some (.string kF) := by simp
    have hout : Out g5 (.slice (some ⟨w5.heap.size, 0, none⟩) 1 1) := fun b o len cap hv _ hb => by
      have h1 := HA5.out.at_.lt b hb
      cases hv
      omega
    have hst : Strs (w5.alloc (.cells #[.string kF] 9)) 0 (.slice (some ⟨w5.heap.size, 0, none⟩) 1 1) [kF] :=
      ⟨_, _, rfl, .inr ⟨_, 0, rfl, Nat.zero_le _, fun i hi => by
        obtain rfl : i = 0 := by simp at hi; omega
        exact hcell⟩⟩
    refine (k_sync s hs3 (HA5.out.new hc3) _ hst hout).mono ?_
    clear hc3 hcell hout hst
    rintro e w6 ⟨rfl, g6, st6, ha6, hk6⟩
    have HA6 := Lib.hid ha6
    have HK6 := Lib.hid hk6
    clear ha6 hk6 HA5
    go_wp2_with fail
    rw [← hd]
    clear hd
    go_loopw [4, 7, 8, 10, 11, 12, 42] (fun r _ _ _ _ _ i wr => r = .bool false ∧ ∃ k : Nat, k ≤ n ∧ i = .int .i64 k ∧ ∃ g st, AwG w2 wr g st ∧ Keep (k + 2) s st) (fun _ _ _ _ _ _ i _ => n - (intOf i).toNat)
    case atStart => exact ⟨rfl, 0, Nat.zero_le _, rfl, g6, st6, HA6.out, HK6.out⟩
    case round =>
      obtain ⟨rfl, k, hk, rfl, g, st, hag, hkp⟩ := hrel
      have HAG := Lib.hid hag
      have HKP := Lib.hid hkp
      clear hag hkp
      by_cases hlt : k < n
      · obtain ⟨x, hx⟩ : ∃ x, os[k]? = some x := ⟨_, List.getElem?_eq_getElem (by rw [← HN.out]; exact hlt)⟩
        have hxm := List.mem_of_getElem? hx
        have hsx := HSM.out x hxm
        have hmx := HM.out x hxm
        have hcr : Chg (fun _ => False) w wr := HCW.out.trans HAG.out.chg (fun _ _ x => x)
        obtain ⟨b, o, ha, hat⟩ : ∃ b o, a = some ⟨b, o, none⟩ ∧ OpAt wr b (o + k * 8) x := by
          rcases HC.out with h0 | ⟨b, o, h1, h2⟩
          · rw [h0] at hx; cases hx
          · exact ⟨b, o, h1, (h2 k x hx).new hcr⟩
        subst ha
        have HSX := Lib.hid hsx
        have HMX := Lib.hid hmx
        clear hx hxm hsx hmx hcr
        obtain ⟨x_, hx_⟩ : ∃ y, y = x := ⟨_, rfl⟩
        have HXX := Lib.hid hx_
        clear hx_
        obtain ⟨kd, at_, nm, to_, data, vn, names, vk, bs, lack⟩ := x
        obtain ⟨c0, c1, c2, c3, c4, c5, c6, c7, hst, hbo⟩ := hat
        simp only at c0 c1 c2 c3 c4 c5 c6 c7 hst hbo
        obtain ⟨an, cn, hvn⟩ := hst.form
        obtain ⟨ak, ck, hvk, _⟩ := id hbo
        obtain ⟨nn, hnn⟩ : ∃ k, k = names.length := ⟨_, rfl⟩
        obtain ⟨nk, hnk⟩ : ∃ k, k = bs.length := ⟨_, rfl⟩
        rw [← hnn] at hvn
        rw [← hnk] at hvk
        subst hvn
        subst hvk
        have HNN := Lib.hid hnn
        clear hnn hnk
        obtain ⟨W1, hW1⟩ : ∃ W, W = wr.alloc (.cells #[.int .i64 kd, .int .i64 at_, .string nm, .string to_, .string data, .slice an nn cn, .slice ak nk ck, .int .i64 lack] 36) := ⟨_, rfl⟩
        have hc1 : Chg (fun _ => False) wr W1 := hW1 ▸ Chg.alloc _ (Chg.refl _ _) _
        have HA1 : Hid (AwG w2 W1 g st) := HAG.out.new hc1
        have HW1 := Lib.hid hW1
        have HST := Lib.hid hst
        have HBO := Lib.hid hbo
        have HCR := Lib.hid hc1
        clear hc1 hW1 hst hbo
        have e5 : W1.cell? ⟨wr.heap.size, 5, none⟩ = some (.slice an nn cn) := by rw [HW1.out]; simp
        have HST1 : Hid (Strs W1 0 (.slice an nn cn) names) := by
          obtain ⟨a, cap, h1, h2⟩ := HST.out
          refine ⟨a, cap, h1, ?_⟩
          rcases h2 with h2 | ⟨b, of, h3, h4, h5⟩
          · exact .inl h2
          · exact .inr ⟨b, of, h3, h4, fun i hi => HCR.out.cell (h5 i hi) (fun x => x)⟩
        have hnn10 : nn ≤ 10 := by rw [HNN.out]; exact HSX.out.2.2.2.1
        have HE0 : Hid (W1.cell? ⟨wr.heap.size, 0, none⟩ = some (.int .i64 kd) ∧ W1.cell? ⟨wr.heap.size, 1, none⟩ = some (.int .i64 at_) ∧ W1.cell? ⟨wr.heap.size, 2, none⟩ = some (.string nm) ∧ W1.cell? ⟨wr.heap.size, 3, none⟩ = some (.string to_) ∧ W1.cell? ⟨wr.heap.size, 4, none⟩ = some (.string data) ∧ W1.cell? ⟨wr.heap.size, 5, none⟩ = some (.slice an nn cn) ∧ W1.cell? ⟨wr.heap.size, 6, none⟩ = some (.slice ak nk ck) ∧ W1.cell? ⟨wr.heap.size, 7, none⟩ = some (.int .i64 lack)) := by
          refine ⟨?_, ?_, ?_, ?_, ?_, ?_, ?_, ?_⟩ <;> (rw [HW1.out]; simp)
        go_wp2_with fail
        all_goals
          rw [← HW1.out]
          go_loopw [8, 10, 57] (fun q8 _ i wr2 => ∃ q : Bool, q8 = .bool q ∧ ∃ j : Nat, j ≤ nn ∧ i = .int .i64 j ∧ wr2 = W1 ∧ (q = false → kF ≠ nm ∧ kF ≠ to_ ∧ ∀ p, p < j → kF ≠ names.getD p ⟨#[]⟩)) (fun _ _ i _ => nn - (intOf i).toNat)
          case atStart =>
            first
            | exact ⟨true, rfl, 0, Nat.zero_le _, rfl, rfl, fun x => (by cases x)⟩
            | exact ⟨_, rfl, 0, Nat.zero_le _, rfl, rfl, fun x => ⟨fun e => (by subst e; simp [kF_toList] at x), fun e => (by subst e; simp [kF_toList] at x), fun p hp => absurd hp (Nat.not_lt_zero _)⟩⟩
          case round =>
            obtain ⟨q, rfl, j, hj, rfl, hwr, hsq⟩ := hrel
            subst hwr
            have HSQ := Lib.hid hsq
            clear hsq
            by_cases hjl : j < nn
            · obtain ⟨b2, o2, han, hcell⟩ := HST1.out.cellAt (i := j) (by rw [← HNN.out]; exact hjl)
              subst han
              obtain ⟨t, ht⟩ : ∃ t, t = names.getD j ⟨#[]⟩ := ⟨_, rfl⟩
              rw [← ht] at hcell
              have HT := Lib.hid ht
              clear ht
              cases q with
              | true =>
                go_wp2_with fail
                exact ⟨⟨true, rfl, j + 1, by omega, by go_num, (by first | rfl | trivial), fun x => (by cases x)⟩, by simp [intOf]; omega⟩
              | false =>
                go_wp2_with fail
                refine ⟨⟨_, rfl, j + 1, by omega, by go_num, (by first | rfl | trivial), fun x => ?_⟩, by simp [intOf]; omega⟩
                obtain ⟨h1, h2, h3⟩ := HSQ.out rfl
                refine ⟨h1, h2, fun p hp => ?_⟩
                by_cases hpj : p = j
                · subst hpj
                  rw [← HT.out]
                  intro e
                  rw [← e, kF_toList] at x
                  simp at x
                · exact h3 p (by omega)
            · cases q with
              | true =>
                go_wp2_with fail
                exact ⟨⟨rfl, k + 1, by omega, by go_num, g, st, HA1.out, HKP.out.more (by omega)⟩, by simp [intOf]; omega⟩
              | false =>
                obtain ⟨f0, f1, f2, f3, f4, f5, f6, f7⟩ := HE0.out
                have hsp : Spares ⟨kd, at_, nm, to_, data, .slice an nn cn, names, .slice ak nk ck, bs, lack⟩ kF := by
                  obtain ⟨h1, h2, h3⟩ := HSQ.out rfl
                  refine ⟨h1, h2, fun hm => ?_⟩
                  obtain ⟨p, hp, he⟩ := List.mem_iff_getElem.1 hm
                  have hp' : p < names.length := hp
                  have h4 := h3 p (by rw [← HNN.out] at hp'; omega)
                  rw [List.getD_eq_getElem?_getD, List.getElem?_eq_getElem hp'] at h4
                  exact h4 he.symm
                have hdo := do_any_step (o := ⟨kd, at_, nm, to_, data, .slice an nn cn, names, .slice ak nk ck, bs, lack⟩) HKP.out (by omega) HSX.out hsp HMX.out HCW.out.size _ HA1.out HST1.out (HBO.out.chg HCR.out (fun _ _ _ _ _ x => x))
                unfold OpM.val at hdo
                simp only at hdo
                rw [← HD.out] at hdo
                have HDO := Lib.hid hdo
                clear hdo hsp
                go_wp2_with (go_at_call 12; refine HDO.out.mono ?_)
                rintro e Wd z rfl g2 st2 hag2 hkp2
                have HK2 := Lib.hid hkp2
                clear hkp2
                cases hdn : st2.down with
                | true =>
                  have hA := fun W h => all_dn (g := g2) HK2.out HD.out hdn W h
                  have hB := fun W h => down_is HD.out hdn W h (g := g2)
                  have HAA := Lib.hid hA
                  have HBB := Lib.hid hB
                  clear hA hB hdn f0 f1 f2 f3 f4 f5 f6 f7
                  go_wp2_with (first
                    | (go_at_call 13; refine (HAA.out _ (by first | assumption | exact AwG.drew (by assumption))).mono ?_; rintro e Wx ⟨rfl, hx⟩)
                    | (go_at_call 14; refine (HBB.out _ (by first | assumption | exact AwG.drew (by assumption))).mono ?_; rintro e Wx ⟨rfl, hx⟩))
                  exact ⟨⟨rfl, k + 1, by omega, by go_num, g2, st2, (by first | assumption | exact AwG.drew (by assumption)), HK2.out⟩, by simp [intOf]; omega⟩
                | false =>
                  have hA := fun W h => all_up (g := g2) HK2.out HD.out hdn W h
                  have hB := fun W h => down_is HD.out hdn W h (g := g2)
                  have HAA := Lib.hid hA
                  have HBB := Lib.hid hB
                  clear hA hB hdn f0 f1 f2 f3 f4 f5 f6 f7
                  go_wp2_with (first
                    | (go_at_call 13; refine (HAA.out _ (by first | assumption | exact AwG.drew (by assumption))).mono ?_; rintro e Wx ⟨rfl, hx⟩)
                    | (go_at_call 14; refine (HBB.out _ (by first | assumption | exact AwG.drew (by assumption))).mono ?_; rintro e Wx ⟨rfl, hx⟩))
                  exact ⟨⟨rfl, k + 1, by omega, by go_num, g2, st2, (by first | assumption | exact AwG.drew (by assumption)), HK2.out⟩, by simp [intOf]; omega⟩
      · have hC := crash_keep HKP.out (by omega) wr HAG.out
        rw [← HD.out] at hC
        have HCR := Lib.hid hC
        clear hC
        go_wp2_with fail
        refine HCR.out.mono ?_
        rintro e Wa ⟨rfl, g2, st2, hag2, hkp2, hdn⟩
        have hA := fun W h => all_up (g := g2) hkp2 HD.out hdn W h
        have HAA := Lib.hid hA
        clear hA hdn hkp2
        go_wp2_with (go_at_call 13; refine (HAA.out _ (by first | assumption | exact AwG.drew (by assumption))).mono ?_; rintro e Wx ⟨rfl, hx⟩)
        go_ret
        exact ⟨rfl, HCW.out.trans hx.chg (fun _ _ x => x)⟩
theorem walkF_DiskLasts (s : ByteArray) (v : Value) (os : List OpM) (w : World) (hs0 : s.size ≤ maxLen) (h : OpsAt w v os) (hl : os.length ≤ maxLen)
    (hm : ∀ x ∈ os, x.at_ ≤ 9223372036854775807 ∧ LowV w x.vn ∧ LowV w x.vk) :
    Calls Try.prog 3 #[.string s, v] w (fun e w' => e = .returned (.bool true) ∧ Below w.heap.size w w') :=
  (walk_DiskLasts s v os w hs0 h hl hm).mono fun e w' hh => ⟨hh.1, hh.2.below (fun _ _ e => e.elim) (Nat.le_refl _)⟩
end Go.Proofs.Ytmoehmclcegmnaa
