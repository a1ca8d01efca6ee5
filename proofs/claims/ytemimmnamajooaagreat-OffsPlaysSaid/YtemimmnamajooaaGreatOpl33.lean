/- A part. -/
import Derived.Deep.CutBlock
import Derived.Test.YtemimmnamajooaaGreatOpl32
set_option linter.unusedVariables false
set_option linter.unusedSimpArgs false
namespace Go.Proofs.YtemimmnamajooaaGreat
open Go.RowKit Go.Deep
theorem PX.cells {w0 w : World} {d k ob : Nat} {nv lv : Value} {l nw : OL} {dn : Bool} {BX : Nat} {xk xn x3 x4 lack : Int} {x1 x2 : ByteArray} {vk : Value} {ty : TypeId} (h : PX w0 w d k ob nv lv l nw dn BX #[.int .i64 xk, .int .i64 xn, .string x1, .string x2, .int .i64 x3, .int .i64 x4, vk, .int .i64 lack] ty) :
    w.cell? ⟨BX, 0, none⟩ = some (.int .i64 xk) ∧ w.cell? ⟨BX, 1, none⟩ = some (.int .i64 xn) ∧ w.cell? ⟨BX, 2, none⟩ = some (.string x1) ∧ w.cell? ⟨BX, 3, none⟩ = some (.string x2) ∧ w.cell? ⟨BX, 4, none⟩ = some (.int .i64 x3) ∧ w.cell? ⟨BX, 5, none⟩ = some (.int .i64 x4) ∧ w.cell? ⟨BX, 6, none⟩ = some vk ∧ w.cell? ⟨BX, 7, none⟩ = some (.int .i64 lack) := by
  have hb := h.bx
  refine ⟨?_, ?_, ?_, ?_, ?_, ?_, ?_, ?_⟩ <;> simp [World.cell?, hb]
theorem ORow.spots {w : World} {g n c j : Nat} {l : OL} {y : OfM} (h : ORow w (.slice (some ⟨g, 0, none⟩) n c) l) (hy : l[j]? = some y) :
    (w.cell? ⟨g, j * 4, none⟩ = some (.string y.g) ∧ w.cell? ⟨g, j * 4 + 1, none⟩ = some (.string y.t) ∧ w.cell? ⟨g, j * 4 + 2, none⟩ = some (.int .i64 y.q) ∧ w.cell? ⟨g, j * 4 + 3, none⟩ = some (.int .i64 y.a)) ∧ ∀ i, w.frozen? ⟨g, i, none⟩ = false := by
  obtain ⟨g2, e, hc⟩ := h.at_ hy
  injection e with e
  injection e with e
  subst e
  refine ⟨⟨hc.c0, hc.c1, hc.c2, hc.c3⟩, ?_⟩
  rcases h.2 with ⟨e, _⟩ | ⟨g2, cap2, cur, e, _, hb, _⟩
  · cases e
  · injection e with e
    injection e with e
    injection e with e
    subst e
    exact (cells_block hb).2
theorem set_ways {l nw : OL} (h : Rel l nw) (hl : OOk l) (x : OfM) :
    (offE x ≠ 0 ∧ osE l x = offE x ∧ osL l x = l) ∨
    (offE x = 0 ∧ findO nw x = -1 ∧ nw.length = 64 ∧ osE l x = 6 ∧ osL l x = l) ∨
    (offE x = 0 ∧ findO nw x = -1 ∧ nw.length ≠ 64 ∧ osE l x = 0 ∧ Rel (osL l x) (nw ++ [x])) ∨
    (offE x = 0 ∧ osE l x = 0 ∧ ∃ (j : Nat) (y : OfM), findO nw x = (j : Int) ∧ nw[j]? = some y ∧ Rel (osL l x) (nw.set j x)) := by
  have hE := osE_law (x := x) h hl
  by_cases h0 : offE x = 0
  · rw [if_neg (by simpa using h0)] at hE
    rcases h.find hl.ris x with ⟨h1, _, h3, h4⟩ | ⟨j, y, h1, h2, _, h4, h5⟩
    · rw [h3, if_neg (by simp)] at hE
      by_cases h64 : nw.length = 64
      · rw [if_pos h64] at hE
        exact .inr (.inl ⟨h0, h1, h64, hE, osL_bad (by rw [hE]; decide)⟩)
      · rw [if_neg h64] at hE
        exact .inr (.inr (.inl ⟨h0, h1, h64, hE, h.add hl.ris hE h4 h3⟩))
    · rw [h4, if_pos rfl] at hE
      exact .inr (.inr (.inr ⟨h0, hE, j, y, h1, h2, h.put hl.ris hE h2 h5 h4⟩))
  · rw [if_pos h0] at hE
    exact .inl ⟨h0, hE, osL_bad (by rw [hE]; exact h0)⟩
set_option maxRecDepth 100000 in
set_option maxHeartbeats 32000000 in
theorem walk_OffsPlays (v1 : Value) (os : List OpO) (w : World) (hv1 : OpsA w v1 os) (hl1 : os.length ≤ maxLen) (hw1 : ∀ x ∈ os, x.n ≤ 9223372036854775807 ∧ x.bs.length ≤ maxLen) :
    Calls Tryz.prog 3 #[v1] w fun e w' => e = .returned (.bool true) ∧ Below w.heap.size w w' := by
  have hA : ∀ W, Below w.heap.size w W → OpsA W v1 os := fun W hW => hv1.keep hW
  obtain ⟨a, cap, rfl⟩ := hv1.len
  obtain ⟨n, hn⟩ : ∃ n, n = os.length := ⟨_, rfl⟩
  rw [← hn] at hA hl1 ⊢
  have HA := Lib.hid hA
  have HN := Lib.hid hn
  have HWX := Lib.hid hw1
  have hn64 : (n : Int) ≤ 9223372036854775807 := by unfold maxLen at hl1; omega
  clear hA hn hv1 hl1 hw1
  by_cases h100 : 100 < n
  · have h100' : (100 : Int) < (n : Int) := by omega
    clear h100
    go_enter Tryz.func3, Tryz.ntmps3
    go_wp2_with fail
    refine (awake_o w).mono ?_
    rintro e w1 ⟨rfl, hb1⟩
    have HB1 := Lib.hid hb1
    clear hb1
    go_wp2_with fail
    go_ret
    exact ⟨rfl, HB1.out⟩
  have h100' : ¬ (100 : Int) < (n : Int) := by omega
  have hn100 : n ≤ 100 := by omega
  clear h100
  go_enter Tryz.func3, Tryz.ntmps3
  go_wp2_with fail
  refine (awake_o w).mono ?_
  rintro e w1 ⟨rfl, hb1⟩
  have HB1 := Lib.hid hb1
  clear hb1
  go_wp2_with fail
  refine (new_any 65536 w1).mono ?_
  rintro e w2 ⟨rfl, hd2, hb2⟩
  obtain ⟨d, hd⟩ : ∃ d, d = w1.heap.size := ⟨_, rfl⟩
  have hc2 : Chg (fun _ => False) w w2 := (Chg.of_below HB1.out).trans (Chg.of_below hb2) (fun _ _ e => e)
  have hO := open_saved (w0 := w) (g := ⟨w1.heap.size, none, []⟩) hd2 hc2 (fun k hk => by have := HB1.out.size; simp [Gh.fp] at hk; omega) (.inl ⟨rfl, rfl⟩) OOk.nil rfl
  have HO := Lib.hid hO
  have HDD := Lib.hid hd
  clear hd2 hb2 hc2 hO hd
  go_wp2_with fail
  rw [← HDD.out] at HO
  rw [← HDD.out]
  refine HO.out.mono ?_
  rintro e w3 ⟨_, ob, v3, rfl, _, _, h3⟩
  have HP3 : Hid (PE w w3 d 0 ob (.slice none 0 0) (.slice none 0 0) [] []) := Lib.hid ⟨_, _, _, [], [], ⟨h3, rfl, Good.new _, fun _ _ _ => rfl, rfl, OOk.nil, OOk.nil, Rel.self OOk.nil.ris, .inl ⟨rfl, rfl⟩, Kp.nil _ _ _ _ _, Kp.nil _ _ _ _ _⟩⟩
  clear h3 HO
  go_wp2_with fail
  go_loopw [4, 6, 7, 8, 34] (fun o nv lv mv i wr => ∃ (k ob : Nat) (l nw : OL), k ≤ n ∧ i = .int .i64 (k : Int) ∧ o = .pointer (some ⟨ob, 0, none⟩) ∧ Hid (PE w wr d k ob nv lv l nw ∧ Rel l nw)) (fun _ _ _ _ i _ => n - (intOf i).toNat)
  case atStart => exact ⟨0, ob, [], [], Nat.zero_le _, rfl, rfl, Lib.hid ⟨HP3.out, Rel.self OOk.nil.ris⟩⟩
  case round =>
    clear HP3 HB1
    obtain ⟨k, ob, l, nw, hk, rfl, rfl, HI⟩ := hrel
    by_cases hlt : k < n
    · obtain ⟨x, hx⟩ : ∃ x, os[k]? = some x := ⟨_, List.getElem?_eq_getElem (by rw [← HN.out]; exact hlt)⟩
      obtain ⟨hxn, hxb⟩ := HWX.out x (List.mem_of_getElem? hx)
      obtain ⟨b, o, rfl, hcell, hbo⟩ := (HA.out wr HI.out.1.below).at_ hx
      obtain ⟨xk, xn, ⟨x1, x2, x3, x4⟩, vk, bs, lack⟩ := x
      try dsimp only at hxn hxb hbo
      have hbw : ∀ W, Below wr.heap.size wr W → BoolsOf W vk bs := fun W hW => (OpCell.keep ⟨hcell, hbo⟩ hW).2
      obtain ⟨ka, kc, hvk, _⟩ := hbo
      obtain ⟨kl, hkl⟩ : ∃ kl, kl = bs.length := ⟨_, rfl⟩
      rw [← hkl] at hvk hxb
      subst hvk
      unfold maxLen at hxb
      have f0 : wr.cell? ⟨b, o + k * 8, none⟩ = some (.int .i64 xk) := hcell 0 _ rfl
      have f1 : wr.cell? ⟨b, o + k * 8 + 1, none⟩ = some (.int .i64 xn) := hcell 1 _ rfl
      have f2 : wr.cell? ⟨b, o + k * 8 + 1 + 1, none⟩ = some (.string x1) := hcell 2 _ rfl
      have f3 : wr.cell? ⟨b, o + k * 8 + 1 + 1 + 1, none⟩ = some (.string x2) := hcell 3 _ rfl
      have f4 : wr.cell? ⟨b, o + k * 8 + 1 + 1 + 1 + 1, none⟩ = some (.int .i64 x3) := hcell 4 _ rfl
      have f5 : wr.cell? ⟨b, o + k * 8 + 1 + 1 + 1 + 1 + 1, none⟩ = some (.int .i64 x4) := hcell 5 _ rfl
      have f6 : wr.cell? ⟨b, o + k * 8 + 1 + 1 + 1 + 1 + 1 + 1, none⟩ = some (.slice ka kl kc) := hcell 6 _ rfl
      have f7 : wr.cell? ⟨b, o + k * 8 + 1 + 1 + 1 + 1 + 1 + 1 + 1, none⟩ = some (.int .i64 lack) := hcell 7 _ rfl
      obtain ⟨W1, hW1⟩ : ∃ W, W = wr.alloc (.cells #[.int .i64 xk, .int .i64 xn, .string x1, .string x2, .int .i64 x3, .int .i64 x4, .slice ka kl kc, .int .i64 lack] 37) := ⟨_, rfl⟩
      obtain ⟨BX, hBX⟩ : ∃ b, b = wr.heap.size := ⟨_, rfl⟩
      have hb1 : Below wr.heap.size wr W1 := by rw [hW1]; exact (Below.refl _ _).alloc (Nat.le_refl _) _
      obtain ⟨dn, hpx⟩ := PE.box HI.out.1 hW1
      rw [← hBX] at hpx
      have HX := Lib.hid hpx
      have HR := Lib.hid HI.out.2
      have HBW : Hid (∀ W, Below W1.heap.size W1 W → BoolsOf W (.slice ka kl kc) bs) := Lib.hid (fun W hW => hbw W (ubelow_on hW hb1 (Nat.le_refl _)))
      have HW1 := Lib.hid hW1
      have HBX := Lib.hid hBX
      have HKL := Lib.hid hkl
      have hk100 : k ≤ 100 := by omega
      obtain ⟨k0, k1, k2, k3, k4, k5, k6, k7⟩ := hpx.cells
      clear hx hcell hbw hb1 hpx hW1 hBX hkl
      obtain ⟨q1, hq1⟩ : ∃ q1, decide ((100 : Int) < (x1.size : Int)) = q1 := ⟨_, rfl⟩
      obtain ⟨q2, hq2⟩ : ∃ q2, decide ((100 : Int) < (x2.size : Int)) = q2 := ⟨_, rfl⟩
      obtain ⟨q3, hq3⟩ : ∃ q3, decide ((100 : Int) < (kl : Int)) = q3 := ⟨_, rfl⟩
      by_cases hbig : (q1 || q2 || q3) = true
      · as_aux_lemma =>
          cases q1 <;> cases q2 <;> cases q3
          · cases hbig
          all_goals
            clear hbig
            go_upto_region 13 with fail
            rw [← HW1.out, ← HBX.out]
            go_wp2_with fail
            go_ret
            exact ⟨rfl, HX.out.pe.below⟩
      · obtain rfl : q1 = false := by cases q1 <;> simp_all
        obtain rfl : q2 = false := by cases q2 <;> simp_all
        obtain rfl : q3 = false := by cases q3 <;> simp_all
        clear hbig
        have z1 : x1.size ≤ 100 := by have := of_decide_eq_false hq1; omega
        have z2 : x2.size ≤ 100 := by have := of_decide_eq_false hq2; omega
        have z3 : bs.length ≤ 100 := by have := of_decide_eq_false hq3; rw [← HKL.out]; omega
        have HZ : Hid (x1.size ≤ 100 ∧ x2.size ≤ 100 ∧ bs.length ≤ 100) := Lib.hid ⟨z1, z2, z3⟩
        clear z1 z2 z3
        go_upto_region 13 with fail
        rw [← HW1.out, ← HBX.out]
        go_upto_block 2 with fail
        clear f0 f1 f2 f3 f4 f5 f6 f7 HW1
        go_cut [4, 6, 7, 8, 11, 12, 13, 14, 15, 16] (fun o9 n9 v9 _ _ _ _ _ _ _ wx => ∃ (ob9 : Nat) (a9 : Option Addr) (c9 : Nat) (l9 nw9 : OL) (dn9 : Bool), o9 = .pointer (some ⟨ob9, 0, none⟩) ∧ n9 = .slice a9 nw9.length c9 ∧ PX w wx d (k + 1) ob9 (.slice a9 nw9.length c9) v9 l9 nw9 dn9 BX #[.int .i64 xk, .int .i64 xn, .string x1, .string x2, .int .i64 x3, .int .i64 x4, .slice ka kl kc, .int .i64 lack] 37 ∧ Rel l9 nw9)
        case first =>
          by_cases e0 : xk = 0
          · as_aux_lemma =>
              subst e0
              obtain ⟨an, cn, hu6, _⟩ := HX.out.arg.len
              have hnl : nw.length ≤ 64 := by rw [HR.out.len]; exact HX.out.ok.len
              have hw := set_ways HR.out HX.out.ok ⟨x1, x2, x3, x4⟩
              have hrt : ∀ W, Calls Tryz.prog 10 #[.agg #[.string x1, .string x2, .int .i64 x3, .int .i64 x4]] W fun e w' => e = .returned (.int .i64 (offE ⟨x1, x2, x3, x4⟩)) ∧ Below W.heap.size W w' := fun W => right_any ⟨x1, x2, x3, x4⟩ W (by show x1.size ≤ maxLen; have := HZ.out.1; unfold maxLen; omega) (by show x2.size ≤ maxLen; have := HZ.out.2.1; unfold maxLen; omega)
              have hfn : ∀ W, Below W1.heap.size W1 W → Calls Tryz.prog 11 #[u6, .agg #[.string x1, .string x2, .int .i64 x3, .int .i64 x4]] W fun e w' => e = .returned (.int .i64 (findO nw ⟨x1, x2, x3, x4⟩)) ∧ Below W.heap.size W w' := fun W hW => find_any ⟨x1, x2, x3, x4⟩ (HX.out.new hW).arg (by omega)
              have hst : ∀ W, Below W1.heap.size W1 W → Calls Tryz.prog 12 #[.pointer (some ⟨ob, 0, none⟩), .agg #[.string x1, .string x2, .int .i64 x3, .int .i64 x4]] W fun e w' => e = .returned (.int .i64 (osE l ⟨x1, x2, x3, x4⟩)) ∧ PX w w' d k ob u6 u7 (osL l ⟨x1, x2, x3, x4⟩) nw dn BX #[.int .i64 0, .int .i64 xn, .string x1, .string x2, .int .i64 x3, .int .i64 x4, .slice ka kl kc, .int .i64 lack] 37 := fun W hW => (HX.out.new hW).set ⟨x1, x2, x3, x4⟩ (by show x1.size ≤ 1000; have := HZ.out.1; omega) (by show x2.size ≤ 1000; have := HZ.out.2.1; omega)
              obtain ⟨oe, hoe⟩ : ∃ t, t = offE ⟨x1, x2, x3, x4⟩ := ⟨_, rfl⟩
              obtain ⟨fi, hfi⟩ : ∃ t, t = findO nw ⟨x1, x2, x3, x4⟩ := ⟨_, rfl⟩
              obtain ⟨er, her⟩ : ∃ t, t = osE l ⟨x1, x2, x3, x4⟩ := ⟨_, rfl⟩
              obtain ⟨l3, hl3⟩ : ∃ t, t = osL l ⟨x1, x2, x3, x4⟩ := ⟨_, rfl⟩
              rw [← hoe, ← hfi, ← her, ← hl3] at hw
              rw [← hoe] at hrt
              rw [← hfi] at hfn
              rw [← her, ← hl3] at hst
              subst hu6
              have HRT := Lib.hid hrt
              have HFN := Lib.hid hfn
              have HST := Lib.hid hst
              clear hoe hfi her hl3 hrt hfn hst
              go_wp2_with fail
              refine (HRT.out _).mono ?_
              rintro e wA ⟨rfl, hbn⟩
              have HBA := Lib.hid hbn
              have k0 := ukeep hbn k0
              have k1 := ukeep hbn k1
              have k2 := ukeep hbn k2
              have k3 := ukeep hbn k3
              have k4 := ukeep hbn k4
              have k5 := ukeep hbn k5
              have k6 := ukeep hbn k6
              have k7 := ukeep hbn k7
              clear hbn
              go_wp2_with fail
              refine (HFN.out wA HBA.out).mono ?_
              rintro e wB ⟨rfl, hbn⟩
              have HBB := Lib.hid (ubelow_on hbn HBA.out (Nat.le_refl _))
              have k0 := ukeep hbn k0
              have k1 := ukeep hbn k1
              have k2 := ukeep hbn k2
              have k3 := ukeep hbn k3
              have k4 := ukeep hbn k4
              have k5 := ukeep hbn k5
              have k6 := ukeep hbn k6
              have k7 := ukeep hbn k7
              clear hbn
              have HSB := Lib.hid (HST.out wB HBB.out)
              rcases hw with ⟨z0, rfl, z2⟩ | ⟨rfl, rfl, z1, rfl, z2⟩ | ⟨rfl, rfl, z1, rfl, z2⟩ | ⟨rfl, rfl, j, y, rfl, z1, z2⟩
              · have z3 : (er == 0) = false := by simpa using z0
                have z4 : (er != 0) = true := by simpa using z0
                subst z2
                go_wp2_with fail
                refine HSB.out.mono ?_
                rintro e wC ⟨rfl, hX⟩
                have HX2 := Lib.hid hX
                clear k0 k1 k2 k3 k4 k5 k6 k7 hX
                go_wp2_with fail
                go_meet
                case rel => exact ⟨ob, an, cn, _, nw, _, rfl, rfl, HX2.out.more, HR.out⟩
              · subst z2
                have z3 : (nw.length : Int) = 64 := by omega
                go_wp2_with fail
                refine HSB.out.mono ?_
                rintro e wC ⟨rfl, hX⟩
                have HX2 := Lib.hid hX
                clear k0 k1 k2 k3 k4 k5 k6 k7 hX
                go_wp2_with fail
                go_meet
                case rel => exact ⟨ob, an, cn, _, nw, _, rfl, by rw [z1], HX2.out.more, HR.out⟩
              · have z3 : ¬ (nw.length : Int) = 64 := by omega
                have z4 : ((nw.length : Int) == 64) = false := by simpa using z3
                have HZ2 := Lib.hid z2
                clear z2
                go_wp2_with fail
                refine HSB.out.mono ?_
                rintro e wC ⟨rfl, hX⟩
                obtain ⟨vA, wD, hrA, hbD, hrow, hown, hXD⟩ := hX.copy (by omega) 30
                obtain ⟨vB, wE, hrB, hXE⟩ := hX.app ⟨x1, x2, x3, x4⟩ hbD hrow hown (by omega) 30
                clear k0 k1 k2 k3 k4 k5 k6 k7
                obtain ⟨k0, k1, k2, k3, k4, k5, k6, k7⟩ := hXD.cells
                obtain ⟨aB, cB, hvB, _⟩ := hXE.arg.len
                subst hvB
                have HRA := Lib.hid hrA
                have HRB := Lib.hid hrB
                have HX2 := Lib.hid hXE
                clear hrA hrB hbD hrow hown hXD hXE hX
                go_wp2_with (first
                  | (at_builtin; refine Lib.wpList_append_run _ rfl _ _ _ _ rfl _ _ rfl rfl _ _ HRA.out ?_)
                  | (at_builtin; refine Lib.wpList_append_run _ rfl _ _ _ _ rfl _ _ rfl rfl _ _ HRB.out ?_))
                go_wp2_with fail
                go_meet
                case rel => exact ⟨ob, _, _, _, (nw ++ [⟨x1, x2, x3, x4⟩]), _, rfl, by simp, HX2.out.more, HZ2.out⟩
              · have hjl : j < nw.length := (List.getElem?_eq_some_iff.1 z1).1
                have HZ2 := Lib.hid z2
                have hj0 : (0 : Int) ≤ (j : Int) := by omega
                have hj1 : (j : Int) < (nw.length : Int) := by omega
                have hneg : decide ((j : Int) < 0) = false := decide_eq_false (by omega)
                clear z2
                go_wp2_with fail
                refine HSB.out.mono ?_
                rintro e wC ⟨rfl, hX⟩
                obtain ⟨vA, wD, hrA, hbD, hrow, hown, hXD⟩ := hX.copy (by omega) 30
                obtain ⟨g, c, hvA, hXE⟩ := hX.at_ ⟨x1, x2, x3, x4⟩ hbD hrow hown hjl
                subst hvA
                obtain ⟨⟨n0, n1, n2, n3⟩, nz⟩ := hrow.spots z1
                have y0 := nz (j * 4)
                have y1 := nz (j * 4 + 1)
                have y2 := nz (j * 4 + 2)
                have y3 := nz (j * 4 + 3)
                clear k0 k1 k2 k3 k4 k5 k6 k7
                obtain ⟨k0, k1, k2, k3, k4, k5, k6, k7⟩ := hXD.cells
                have HRA := Lib.hid hrA
                have HX2 := Lib.hid hXE
                have HLE : Hid ((nw.set j ⟨x1, x2, x3, x4⟩).length = nw.length) := Lib.hid List.length_set
                clear hrA hbD hrow hown hXD hXE hX nz
                go_wp2_with (at_builtin; refine Lib.wpList_append_run _ rfl _ _ _ _ rfl _ _ rfl rfl _ _ HRA.out ?_)
                go_wp2_with fail
                go_meet
                case rel => exact ⟨ob, _, _, _, (nw.set j ⟨x1, x2, x3, x4⟩), _, rfl, by rw [HLE.out], by rw [HLE.out]; exact HX2.out.more, HZ2.out⟩
          by_cases e1 : xk = 1
          · as_aux_lemma =>
              subst e1
              obtain ⟨an, cn, hu6, _⟩ := HX.out.arg.len
              subst hu6
              have HDN := Lib.hid HX.out.down
              go_wp2_with fail
              refine HDN.out.mono ?_
              rintro e wA ⟨rfl, rfl⟩
              rcases HX.out.flush HR.out (by omega) with hF | hF
              ·
                have HF := Lib.hid hF
                clear hF
                go_wp2_with fail
                refine HF.out.mono ?_
                rintro e wB ⟨rfl, hX⟩
                have HX2 := Lib.hid hX
                have HDN2 := Lib.hid hX.down
                clear k0 k1 k2 k3 k4 k5 k6 k7 hX
                go_wp2_with fail
                refine HDN2.out.mono ?_
                rintro e wn ⟨rfl, rfl⟩
                go_wp2_with fail
                go_meet
                case rel => exact ⟨ob, an, cn, l, nw, _, rfl, rfl, HX2.out, HR.out⟩
              · cases dn
                all_goals
                  have HF := Lib.hid hF
                  clear hF
                  go_wp2_with fail
                  refine HF.out.mono ?_
                  rintro e wB ⟨rfl, hX⟩
                  have HX2 := Lib.hid hX
                  have HDN2 := Lib.hid hX.down
                  clear k0 k1 k2 k3 k4 k5 k6 k7 hX
                  go_wp2_with fail
                  refine HDN2.out.mono ?_
                  rintro e wn ⟨rfl, rfl⟩
                  go_wp2_with fail
                  go_meet
                  case rel => exact ⟨ob, an, cn, l, nw, _, rfl, rfl, HX2.out, HR.out⟩
          by_cases e2 : xk = 2
          · as_aux_lemma =>
              subst e2
              obtain ⟨an, cn, hu6, _⟩ := HX.out.arg.len
              subst hu6
              have HF := Lib.hid (HX.out.fuse xn hxn)
              go_wp2_with fail
              refine HF.out.mono ?_
              rintro e wA ⟨rfl, hX⟩
              have HX2 := Lib.hid hX
              clear k0 k1 k2 k3 k4 k5 k6 k7 hX
              go_wp2_with fail
              go_meet
              case rel => exact ⟨ob, an, cn, l, nw, _, rfl, rfl, HX2.out.more, HR.out⟩
          by_cases e3 : xk = 3
          · as_aux_lemma =>
              subst e3
              have HC := Lib.hid (HX.out.crash (by omega) (.slice ka kl kc) bs lack (HBW.out _ (Below.refl _ _)) (by have := HZ.out.2.2; omega))
              go_wp2_with fail
              refine HC.out.mono ?_
              rintro e wA ⟨rfl, hX⟩
              obtain ⟨l9, ls, hO⟩ := hX.open_
              have HO := Lib.hid hO
              clear k0 k1 k2 k3 k4 k5 k6 k7 hX hO
              go_wp2_with fail
              refine HO.out.mono ?_
              rintro e wB ⟨ob2, rfl, hO2⟩
              have HO2 := Lib.hid hO2
              have HALL : Hid (∀ W, Below wB.heap.size wB W → Calls Tryz.prog 18 #[.pointer (some ⟨ob2, 0, none⟩)] W (CloneTo W l9)) := Lib.hid (fun W hW => (HO2.out.new hW).px.all)
              have HSM : Hid (∀ W u, Below wB.heap.size wB W → ORow W u l9 → Calls Tryz.prog 17 #[u, u7] W fun e w' => e = .returned (.bool true) ∧ Below W.heap.size W w') := Lib.hid (fun W u hW hu => same_any_o hu.arg (HO2.out.new hW).px.arg (by have := HO2.out.px.ok.len; omega) (HO2.out.rel.agree HO2.out.px.ok.ris))
              clear hO2
              go_wp2_with fail
              refine (HALL.out wB (Below.refl _ _)).mono ?_
              rintro e wC ⟨vA, rfl, hrA, hbC, _⟩
              have HSC := Lib.hid (HSM.out wC vA hbC hrA)
              have HBC := Lib.hid hbC
              clear hrA hbC
              go_wp2_with fail
              refine HSC.out.mono ?_
              rintro e wE ⟨rfl, hbE⟩
              have HBE := Lib.hid (ubelow_on hbE HBC.out (Nat.le_refl _))
              clear hbE
              go_wp2_with fail
              refine (HALL.out wE HBE.out).mono ?_
              rintro e wD ⟨vB, rfl, hrB, hbD, hoB⟩
              have hP := (HO2.out.new HBE.out).now hbD hrB hoB
              obtain ⟨aB, cB, hvB, _⟩ := hP.arg.len
              subst hvB
              have HX2 := Lib.hid hP
              have HRR := Lib.hid (Rel.self hP.ok.ris)
              clear hP hrB hbD hoB
              go_wp2_with fail
              go_meet
              case rel => exact ⟨ob2, aB, cB, l9, l9, _, rfl, rfl, HX2.out.more, HRR.out⟩
          as_aux_lemma =>
            obtain ⟨an, cn, hu6, _⟩ := HX.out.arg.len
            subst hu6
            have d0 : (xk == 0) = false := by simpa using e0
            have d1 : (xk == 1) = false := by simpa using e1
            have d2 : (xk == 2) = false := by simpa using e2
            have d3 : (xk == 3) = false := by simpa using e3
            go_wp2_with fail
            go_meet
            case rel => exact ⟨ob, an, cn, l, nw, _, rfl, rfl, HX.out.more, HR.out⟩
        case rest =>
          as_aux_lemma =>
            obtain ⟨ob9, a9, c9, l9, nw9, dn9, rfl, rfl, hX, hR⟩ := hcut
            have HX9 := Lib.hid hX
            have HR9 := Lib.hid hR
            clear k0 k1 k2 k3 k4 k5 k6 k7 HX HR HI HBW
            obtain ⟨k0, k1, k2, k3, k4, k5, k6, k7⟩ := hX.cells
            have hnl : nw9.length ≤ 64 := by rw [hR.len]; exact hX.ok.len
            have hfd := hR.find hX.ok.ris ⟨x1, x2, x3, x4⟩
            try dsimp only at hfd
            have hfn : Calls Tryz.prog 11 #[.slice a9 nw9.length c9, .agg #[.string x1, .string x2, .int .i64 x3, .int .i64 x4]] wc fun e w' => e = .returned (.int .i64 (findO nw9 ⟨x1, x2, x3, x4⟩)) ∧ Below wc.heap.size wc w' := find_any ⟨x1, x2, x3, x4⟩ hX.arg (by omega)
            have HALL : Hid (∀ W, Below wc.heap.size wc W → Calls Tryz.prog 18 #[.pointer (some ⟨ob9, 0, none⟩)] W (CloneTo W l9)) := Lib.hid (fun W hW => (HX9.out.new hW).all)
            have HSM : Hid (∀ W u, Below wc.heap.size wc W → ORow W u l9 → Calls Tryz.prog 17 #[u, .slice a9 nw9.length c9] W fun e w' => e = .returned (.bool true) ∧ Below W.heap.size W w') := Lib.hid (fun W u hW hu => same_any_o hu.arg (HX9.out.new hW).arg (by have := HX9.out.ok.len; omega) (HR9.out.agree HX9.out.ok.ris))
            have HRI : Hid (∀ W u, ORow W u l9 → Calls Tryz.prog 19 #[u] W fun e w' => e = .returned (.bool true) ∧ Below W.heap.size W w') := Lib.hid (fun W u hu => rising_any hu.arg HX9.out.ok.ris (by have := HX9.out.ok.len; omega))
            have hG : ∀ W, Below wc.heap.size wc W → Calls Tryz.prog 20 #[.pointer (some ⟨ob9, 0, none⟩), .string x1, .string x2, .int .i64 x3] W fun e w' => e = .returned (.int .i64 (getO l9 x1 x2 x3)) ∧ Below W.heap.size W w' := fun W hW => (HX9.out.new hW).get x1 x2 x3
            obtain ⟨gv, hgv⟩ : ∃ t, t = getO l9 x1 x2 x3 := ⟨_, rfl⟩
            obtain ⟨fi, hfi⟩ : ∃ t, t = findO nw9 ⟨x1, x2, x3, x4⟩ := ⟨_, rfl⟩
            rw [← hgv, ← hfi] at hfd
            rw [← hgv] at hG
            rw [← hfi] at hfn
            have HG := Lib.hid hG
            have HFN := Lib.hid hfn
            clear hX hR hG hfn hgv hfi
            go_wp2_with fail
            refine HFN.out.mono ?_
            rintro e wd ⟨rfl, hbn⟩
            have HB : Hid (Below wc.heap.size wc wd) := Lib.hid hbn
            have HOA := Lib.hid ((HX9.out.new hbn).arg)
            have k0 := ukeep hbn k0
            have k1 := ukeep hbn k1
            have k2 := ukeep hbn k2
            have k3 := ukeep hbn k3
            have k4 := ukeep hbn k4
            have k5 := ukeep hbn k5
            have k6 := ukeep hbn k6
            have k7 := ukeep hbn k7
            clear hbn
            rcases hfd with ⟨rfl, rfl, _, _⟩ | ⟨j, y, rfl, hy, hya, _, _⟩
            ·
              go_wp2_with fail
              refine (HALL.out _ HB.out).mono ?_
              rintro e wn ⟨vA, rfl, hrA, hbn, _⟩
              have HRA := Lib.hid hrA
              clear hrA
              have HB := Lib.hid (ubelow_on hbn HB.out (Nat.le_refl _))
              have k0 := ukeep hbn k0
              have k1 := ukeep hbn k1
              have k2 := ukeep hbn k2
              have k3 := ukeep hbn k3
              have k4 := ukeep hbn k4
              have k5 := ukeep hbn k5
              have k6 := ukeep hbn k6
              have k7 := ukeep hbn k7
              clear hbn
              go_wp2_with fail
              refine (HSM.out _ _ HB.out HRA.out).mono ?_
              rintro e wn ⟨rfl, hbn⟩
              have HB := Lib.hid (ubelow_on hbn HB.out (Nat.le_refl _))
              have k0 := ukeep hbn k0
              have k1 := ukeep hbn k1
              have k2 := ukeep hbn k2
              have k3 := ukeep hbn k3
              have k4 := ukeep hbn k4
              have k5 := ukeep hbn k5
              have k6 := ukeep hbn k6
              have k7 := ukeep hbn k7
              clear hbn
              go_wp2_with fail
              refine (HALL.out _ HB.out).mono ?_
              rintro e wn ⟨vB, rfl, hrB, hbn, _⟩
              have HRB := Lib.hid hrB
              clear hrB
              have HB := Lib.hid (ubelow_on hbn HB.out (Nat.le_refl _))
              have k0 := ukeep hbn k0
              have k1 := ukeep hbn k1
              have k2 := ukeep hbn k2
              have k3 := ukeep hbn k3
              have k4 := ukeep hbn k4
              have k5 := ukeep hbn k5
              have k6 := ukeep hbn k6
              have k7 := ukeep hbn k7
              clear hbn
              go_wp2_with fail
              refine (HRI.out _ _ HRB.out).mono ?_
              rintro e wn ⟨rfl, hbn⟩
              have HB := Lib.hid (ubelow_on hbn HB.out (Nat.le_refl _))
              have k0 := ukeep hbn k0
              have k1 := ukeep hbn k1
              have k2 := ukeep hbn k2
              have k3 := ukeep hbn k3
              have k4 := ukeep hbn k4
              have k5 := ukeep hbn k5
              have k6 := ukeep hbn k6
              have k7 := ukeep hbn k7
              clear hbn
              go_wp2_with fail
              refine (HG.out _ HB.out).mono ?_
              rintro e wn ⟨rfl, hbn⟩
              have HB := Lib.hid (ubelow_on hbn HB.out (Nat.le_refl _))
              have k0 := ukeep hbn k0
              have k1 := ukeep hbn k1
              have k2 := ukeep hbn k2
              have k3 := ukeep hbn k3
              have k4 := ukeep hbn k4
              have k5 := ukeep hbn k5
              have k6 := ukeep hbn k6
              have k7 := ukeep hbn k7
              clear hbn
              have HX5 := Lib.hid (HX9.out.new HB.out)
              clear k0 k1 k2 k3 k4 k5 k6 k7
              go_wp2_with fail
              exact ⟨⟨k + 1, ob9, l9, nw9, by omega, by go_num, rfl, Lib.hid ⟨HX5.out.pe, HR9.out⟩⟩, by simp [intOf]; omega⟩
            · obtain ⟨bb, oo, ha9, hcy⟩ := HOA.out.at_ hy
              have hjl : j < nw9.length := (List.getElem?_eq_some_iff.1 hy).1
              have cy : wd.cell? ⟨bb, oo + j * 4 + 3, none⟩ = some (.int .i64 gv) := by rw [hya]; exact hcy.c3
              have hj0 : (0 : Int) ≤ (j : Int) := by omega
              have hj1 : (j : Int) < (nw9.length : Int) := by omega
              subst ha9
              clear hcy hy hya
              go_wp2_with fail
              refine (HALL.out _ HB.out).mono ?_
              rintro e wn ⟨vA, rfl, hrA, hbn, _⟩
              have HRA := Lib.hid hrA
              clear hrA
              have HB := Lib.hid (ubelow_on hbn HB.out (Nat.le_refl _))
              have k0 := ukeep hbn k0
              have k1 := ukeep hbn k1
              have k2 := ukeep hbn k2
              have k3 := ukeep hbn k3
              have k4 := ukeep hbn k4
              have k5 := ukeep hbn k5
              have k6 := ukeep hbn k6
              have k7 := ukeep hbn k7
              clear hbn
              go_wp2_with fail
              refine (HSM.out _ _ HB.out HRA.out).mono ?_
              rintro e wn ⟨rfl, hbn⟩
              have HB := Lib.hid (ubelow_on hbn HB.out (Nat.le_refl _))
              have k0 := ukeep hbn k0
              have k1 := ukeep hbn k1
              have k2 := ukeep hbn k2
              have k3 := ukeep hbn k3
              have k4 := ukeep hbn k4
              have k5 := ukeep hbn k5
              have k6 := ukeep hbn k6
              have k7 := ukeep hbn k7
              clear hbn
              go_wp2_with fail
              refine (HALL.out _ HB.out).mono ?_
              rintro e wn ⟨vB, rfl, hrB, hbn, _⟩
              have HRB := Lib.hid hrB
              clear hrB
              have HB := Lib.hid (ubelow_on hbn HB.out (Nat.le_refl _))
              have k0 := ukeep hbn k0
              have k1 := ukeep hbn k1
              have k2 := ukeep hbn k2
              have k3 := ukeep hbn k3
              have k4 := ukeep hbn k4
              have k5 := ukeep hbn k5
              have k6 := ukeep hbn k6
              have k7 := ukeep hbn k7
              clear hbn
              go_wp2_with fail
              refine (HRI.out _ _ HRB.out).mono ?_
              rintro e wn ⟨rfl, hbn⟩
              have HB := Lib.hid (ubelow_on hbn HB.out (Nat.le_refl _))
              have k0 := ukeep hbn k0
              have k1 := ukeep hbn k1
              have k2 := ukeep hbn k2
              have k3 := ukeep hbn k3
              have k4 := ukeep hbn k4
              have k5 := ukeep hbn k5
              have k6 := ukeep hbn k6
              have k7 := ukeep hbn k7
              clear hbn
              go_wp2_with fail
              refine (HG.out _ HB.out).mono ?_
              rintro e wn ⟨rfl, hbn⟩
              have HB := Lib.hid (ubelow_on hbn HB.out (Nat.le_refl _))
              have k0 := ukeep hbn k0
              have k1 := ukeep hbn k1
              have k2 := ukeep hbn k2
              have k3 := ukeep hbn k3
              have k4 := ukeep hbn k4
              have k5 := ukeep hbn k5
              have k6 := ukeep hbn k6
              have k7 := ukeep hbn k7
              clear hbn
              have HX5 := Lib.hid (HX9.out.new HB.out)
              clear k0 k1 k2 k3 k4 k5 k6 k7
              go_wp2_with fail
              exact ⟨⟨k + 1, ob9, l9, nw9, by omega, by go_num, rfl, Lib.hid ⟨HX5.out.pe, HR9.out⟩⟩, by simp [intOf]; omega⟩
    · clear HA HWX
      go_wp2_with fail
      go_ret
      exact ⟨rfl, HI.out.1.below⟩
end Go.Proofs.YtemimmnamajooaaGreat
