/- A part. -/
import Derived.Test.YtemimmnamajooaaGreatOfl30
import Derived.Test.YtemimmnamajooaaGreatOfl31
set_option linter.unusedVariables false
set_option linter.unusedSimpArgs false
namespace Go.Proofs.YtemimmnamajooaaGreat
open Go.RowKit Go.Deep
theorem get_set {l : OL} (h : OOk l) {x y : OfM} (hz : osE l x = 0) (hk : sameK y x) : getO (osL l x) y.g y.t y.q = x.a := by
  have h2 := h.set x
  refine getO_mem h2.ris (y := x) ?_ ⟨hk.1.symm, hk.2.1.symm, hk.2.2.symm⟩
  unfold osL
  rw [if_pos hz]
  exact (mem_putO h.ris x x).2 (.inl rfl)
theorem agree_self {l : OL} (h : Rising l) : Agree l l := by
  refine ⟨rfl, fun x hx => ?_⟩
  rcases findO_spec l x with ⟨_, h2⟩ | ⟨j, y, h1, h2, h3⟩
  · exact absurd (sameK.refl x) (h2 x hx)
  · exact ⟨j, y, h1, h2, by rw [rising_key h (List.mem_of_getElem? h2) hx h3]⟩
set_option maxRecDepth 100000 in
set_option maxHeartbeats 8000000 in
theorem walk_OffsLast (v : Value) (os : OL) (w : World) (hv : OArg w v os) (hol : os.length ≤ maxLen) (_ : ∀ x ∈ os, OWf x) :
    Calls Tryz.prog 5 #[v] w fun e w' => e = .returned (.bool true) ∧ Below w.heap.size w w' := by
  have hA : ∀ W, Below w.heap.size w W → OArg W v os := fun W hW => hv.keep hW
  obtain ⟨a, cap, rfl, hcap⟩ := hv.len
  obtain ⟨n, hn⟩ : ∃ n, n = os.length := ⟨_, rfl⟩
  rw [← hn] at hA hol hcap ⊢
  have HA := Lib.hid hA
  have HN := Lib.hid hn
  have hn64 : (n : Int) ≤ 9223372036854775807 := by unfold maxLen at hol; omega
  clear hA hn hv hol
  by_cases h60 : 60 < n
  · have h60' : (60 : Int) < (n : Int) := by omega
    clear h60
    go_enter Tryz.func5, Tryz.ntmps5
    go_wp2_with fail
    refine (awake_o w).mono ?_
    rintro e w1 ⟨rfl, hb1⟩
    have HB1 := Lib.hid hb1
    clear hb1
    go_wp2_with fail
    go_ret
    exact ⟨rfl, HB1.out⟩
  · have h60' : ¬ (60 : Int) < (n : Int) := by omega
    have hn60 : n ≤ 60 := by omega
    clear h60
    go_enter Tryz.func5, Tryz.ntmps5
    go_wp2_with fail
    refine (awake_o w).mono ?_
    rintro e w1 ⟨rfl, hb1⟩
    have HB1 := Lib.hid hb1
    clear hb1
    go_wp2_with fail
    refine (new_any 65536 w1).mono ?_
    rintro e w2 ⟨rfl, hd2, hb2⟩
    obtain ⟨d, hd⟩ : ∃ d, d = w1.heap.size := ⟨_, rfl⟩
    have hc2 : Chg (fun _ => False) w w2 := (Chg.of_below HB1.out).trans (Chg.of_below hb2) (fun _ _ e => e)
    have hO := open_saved (w0 := w) (g := ⟨w1.heap.size, none, []⟩) hd2 hc2 (fun k hk => by have := HB1.out.size; simp [Gh.fp] at hk; omega) (.inl ⟨rfl, rfl⟩) OOk.nil rfl
    have HO := Lib.hid hO
    have HDD := Lib.hid hd
    clear hd2 hb2 hc2 hO hd
    go_wp2_with fail
    rw [← HDD.out] at HO
    rw [← HDD.out]
    refine HO.out.mono ?_
    rintro e w3 ⟨_, ob, v3, rfl, _, _, h3⟩
    have HI3 := Lib.hid h3
    clear h3
    go_wp2_with fail
    go_loopw [27] (fun i wr => ∃ k : Nat, k ≤ n ∧ i = .int .i64 (k : Int) ∧ ∃ v' l, Hid (NI w wr ⟨d, none, []⟩ (newSt 65536) ob v' l) ∧ Hid (OOk l)) (fun i _ => n - (intOf i).toNat)
    case atStart => exact ⟨0, Nat.zero_le _, rfl, v3, [], HI3, Lib.hid OOk.nil⟩
    case round =>
      obtain ⟨k, hk, rfl, v', l, HI, HOK⟩ := hrel
      by_cases hlt : k < n
      · obtain ⟨x, hx⟩ : ∃ x, os[k]? = some x := ⟨_, List.getElem?_eq_getElem (by rw [← HN.out]; exact hlt)⟩
        obtain ⟨b, o, rfl, hc⟩ := (HA.out wr HI.out.below).at_ hx
        obtain ⟨c0, c1, c2, c3⟩ := hc
        obtain ⟨w5, hw5⟩ : ∃ w5, w5 = wr.alloc (.cells #[.string x.g, .string x.t, .int .i64 x.q, .int .i64 x.a] 32) := ⟨_, rfl⟩
        obtain ⟨xb, hxb⟩ : ∃ xb, xb = wr.heap.size := ⟨_, rfl⟩
        have hb5 : Below wr.heap.size wr w5 := by rw [hw5]; exact (Below.refl _ _).alloc (Nat.le_refl _) _
        have f0 : w5.cell? ⟨xb, 0, none⟩ = some (.string x.g) := by rw [hw5, hxb]; simp [go_sem]
        have f1 : w5.cell? ⟨xb, 1, none⟩ = some (.string x.t) := by rw [hw5, hxb]; simp [go_sem]
        have f2 : w5.cell? ⟨xb, 2, none⟩ = some (.int .i64 x.q) := by rw [hw5, hxb]; simp [go_sem]
        have f3 : w5.cell? ⟨xb, 3, none⟩ = some (.int .i64 x.a) := by rw [hw5, hxb]; simp [go_sem]
        have HI5 := Lib.hid (HI.out.new (Chg.of_below hb5))
        have hxk : ∀ S W, Chg S w5 W → ¬ S xb → W.cell? ⟨xb, 0, none⟩ = some (.string x.g) ∧ W.cell? ⟨xb, 1, none⟩ = some (.string x.t) ∧ W.cell? ⟨xb, 2, none⟩ = some (.int .i64 x.q) ∧ W.cell? ⟨xb, 3, none⟩ = some (.int .i64 x.a) := fun S W hW hS => ⟨hW.cell f0 hS, hW.cell f1 hS, hW.cell f2 hS, hW.cell f3 hS⟩
        have hnot : ¬ OS ⟨d, none, []⟩ ob v' xb := fun e => by
          rcases e with e | e | e
          · have := HI.out.oi.disk.lt _ e; omega
          · have := HI.out.oi.head.at_.lt; omega
          · have := HI.out.oi.head.row.lt _ e; omega
        have hset : x.g.size ≤ 1000 → x.t.size ≤ 1000 → Calls Tryz.prog 12 #[.pointer (some ⟨ob, 0, none⟩), .agg (oenc x).toArray] w5 fun e w' => e = .returned (.int .i64 (osE l x)) ∧ ∃ v2, NI w w' ⟨d, none, []⟩ (newSt 65536) ob v2 (osL l x) ∧ (w'.cell? ⟨xb, 0, none⟩ = some (.string x.g) ∧ w'.cell? ⟨xb, 1, none⟩ = some (.string x.t) ∧ w'.cell? ⟨xb, 2, none⟩ = some (.int .i64 x.q) ∧ w'.cell? ⟨xb, 3, none⟩ = some (.int .i64 x.a)) := fun z1 z2 => by
          refine (oset_ni x HI5.out HOK.out z1 z2).mono ?_
          rintro e w' ⟨he, v2, h2, h3⟩
          exact ⟨he, v2, h2, hxk _ _ h3.chg hnot⟩
        have hok2 := HOK.out.set x
        have hgs : osE l x = 0 → ∀ y, sameK y x → getO (osL l x) y.g y.t y.q = x.a := fun hz y hy => get_set HOK.out hz hy
        obtain ⟨er, her⟩ : ∃ er, er = osE l x := ⟨_, rfl⟩
        obtain ⟨l2, hl2⟩ : ∃ l2, l2 = osL l x := ⟨_, rfl⟩
        rw [← her, ← hl2] at hset hgs
        rw [← hl2] at hok2
        obtain ⟨x1, x2, x3, x4⟩ := x
        unfold oenc at hset
        try dsimp only at c0 c1 c2 c3 f0 f1 f2 f3 hset hgs hw5
        have HSET := Lib.hid hset
        have HGS := Lib.hid hgs
        have HW5 := Lib.hid hw5
        have HXB := Lib.hid hxb
        have HOK2 := Lib.hid hok2
        clear hset hgs hw5 hxb hok2 hnot hxk hb5 her hl2 hx
        obtain ⟨q1, hq1⟩ : ∃ q1, decide ((100 : Int) < (x1.size : Int)) = q1 := ⟨_, rfl⟩
        obtain ⟨q2, hq2⟩ : ∃ q2, decide ((100 : Int) < (x2.size : Int)) = q2 := ⟨_, rfl⟩
        have HQ1 := Lib.hid hq1
        have HQ2 := Lib.hid hq2
        by_cases hbig : q1 = true ∨ q2 = true
        · have hbig2 : (q1 || q2) = true := by rcases hbig with h | h <;> simp [h]
          clear hbig
          cases q1 <;> cases q2
          · cases hbig2
          all_goals
            go_upto_region 12 with fail
            rw [← HW5.out, ← HXB.out]
            go_wp2_with fail
            go_ret
            exact ⟨rfl, HI5.out.below⟩
        · obtain rfl : q1 = false := by cases q1 <;> simp_all
          obtain rfl : q2 = false := by cases q2 <;> simp_all
          clear hbig
          have z1 : x1.size ≤ 1000 := by have := of_decide_eq_false hq1; omega
          have z2 : x2.size ≤ 1000 := by have := of_decide_eq_false hq2; omega
          have HSET2 := Lib.hid (HSET.out z1 z2)
          clear z1 z2
          go_upto_region 12 with fail
          rw [← HW5.out, ← HXB.out]
          go_wp2_with fail
          refine HSET2.out.mono ?_
          rintro e w6 ⟨rfl, v2, h6, k0, k1, k2, k3⟩
          have HI6 := Lib.hid h6
          clear h6 f0 f1 f2 f3 c0 c1 c2 c3 hq1 hq2
          by_cases hz : er = 0
          · subst hz
            have hg0 := HGS.out rfl
            have HG0 := Lib.hid hg0
            clear hg0
            have hkc : (k : Int) + 1 ≤ (cap : Int) := by omega
            have hk0 : (0 : Int) ≤ (k : Int) + 1 := by omega
            have HKK : Hid (∀ W, Below w6.heap.size w6 W → W.cell? ⟨xb, 0, none⟩ = some (.string x1) ∧ W.cell? ⟨xb, 1, none⟩ = some (.string x2) ∧ W.cell? ⟨xb, 2, none⟩ = some (.int .i64 x3) ∧ W.cell? ⟨xb, 3, none⟩ = some (.int .i64 x4)) := Lib.hid (fun W hW => ⟨ukeep hW k0, ukeep hW k1, ukeep hW k2, ukeep hW k3⟩)
            clear k0 k1 k2 k3
            go_wp2_with fail
            go_loopw [51] (fun i wr2 => ∃ j : Nat, j ≤ k + 1 ∧ i = .int .i64 (j : Int) ∧ Hid (Below w6.heap.size w6 wr2)) (fun i _ => k + 1 - (intOf i).toNat)
            case atStart => exact ⟨0, Nat.zero_le _, rfl, Lib.hid (Below.refl _ _)⟩
            case round =>
              obtain ⟨j, hj, rfl, HB⟩ := hrel
              by_cases hjl : j < k + 1
              · obtain ⟨y, hy⟩ : ∃ y, os[j]? = some y := ⟨_, List.getElem?_eq_getElem (by rw [← HN.out]; omega)⟩
                have HIr := Lib.hid (HI6.out.new (Chg.of_below HB.out))
                obtain ⟨b', o', e, hc⟩ := (HA.out wr HIr.out.below).at_ hy
                injection e with e
                injection e with e1 e2
                subst e1 e2
                obtain ⟨c0, c1, c2, c3⟩ := hc
                obtain ⟨w7, hw7⟩ : ∃ w7, w7 = wr.alloc (.cells #[.string y.g, .string y.t, .int .i64 y.q, .int .i64 y.a] 32) := ⟨_, rfl⟩
                obtain ⟨yb, hyb⟩ : ∃ yb, yb = wr.heap.size := ⟨_, rfl⟩
                have hb7 : Below w6.heap.size w6 w7 := by rw [hw7]; exact HB.out.alloc HB.out.size _
                have g0 : w7.cell? ⟨yb, 0, none⟩ = some (.string y.g) := by rw [hw7, hyb]; simp [go_sem]
                have g1 : w7.cell? ⟨yb, 1, none⟩ = some (.string y.t) := by rw [hw7, hyb]; simp [go_sem]
                have g2 : w7.cell? ⟨yb, 2, none⟩ = some (.int .i64 y.q) := by rw [hw7, hyb]; simp [go_sem]
                obtain ⟨f0, f1, f2, f3⟩ := HKK.out w7 hb7
                have hG : ∀ W, Below w6.heap.size w6 W → Calls Tryz.prog 20 #[.pointer (some ⟨ob, 0, none⟩), .string y.g, .string y.t, .int .i64 y.q] W fun e w' => e = .returned (.int .i64 (getO l2 y.g y.t y.q)) ∧ Below W.heap.size W w' := fun W hW => get_any y.g y.t y.q (HI6.out.new (Chg.of_below hW)).oi.head HOK2.out.ris (by have := HOK2.out.len; omega)
                have hsB : sameB y ⟨x1, x2, x3, x4⟩ = ((y.g.toList == x1.toList) && ((y.t.toList == x2.toList) && (y.q == x3))) := rfl
                have hgy : sameB y ⟨x1, x2, x3, x4⟩ = true → getO l2 y.g y.t y.q = x4 := fun h => HG0.out y (sameB_iff.1 h)
                obtain ⟨gv, hgv⟩ : ∃ gv, gv = getO l2 y.g y.t y.q := ⟨_, rfl⟩
                rw [← hgv] at hG hgy
                rw [hsB] at hgy
                obtain ⟨y1, y2, y3, y4⟩ := y
                try dsimp only at c0 c1 c2 c3 g0 g1 g2 hG hgy hw7
                obtain ⟨b1, hb1⟩ : ∃ b1, (y1.toList == x1.toList) = b1 := ⟨_, rfl⟩
                obtain ⟨b2, hb2⟩ : ∃ b2, (y2.toList == x2.toList) = b2 := ⟨_, rfl⟩
                obtain ⟨b3, hb3⟩ : ∃ b3, (y3 == x3) = b3 := ⟨_, rfl⟩
                rw [hb1, hb2, hb3] at hgy
                have HG := Lib.hid hG
                have HW7 := Lib.hid hw7
                have HYB := Lib.hid hyb
                have HB7 := Lib.hid hb7
                have HGY := Lib.hid hgy
                clear hG hw7 hyb hb7 hgy hgv hsB hy
                by_cases hall : (b1 && (b2 && b3)) = true
                · have hge := HGY.out hall
                  have k1 : b1 = true := (Bool.and_eq_true_iff.1 hall).1
                  have k2 : b2 = true := (Bool.and_eq_true_iff.1 (Bool.and_eq_true_iff.1 hall).2).1
                  have k3 : b3 = true := (Bool.and_eq_true_iff.1 (Bool.and_eq_true_iff.1 hall).2).2
                  clear hall
                  rw [k1] at hb1
                  rw [k2] at hb2
                  rw [k3] at hb3
                  subst hge
                  clear HGY k1 k2 k3
                  go_upto_region 18 with fail
                  rw [← HW7.out, ← HYB.out]
                  go_region_held3 (fun w' => w'.cell? ⟨xb, 0, none⟩ = some (.string x1) ∧ w'.cell? ⟨xb, 1, none⟩ = some (.string x2) ∧ w'.cell? ⟨xb, 2, none⟩ = some (.int .i64 x3) ∧ w'.cell? ⟨xb, 3, none⟩ = some (.int .i64 gv) ∧ w'.cell? ⟨yb, 0, none⟩ = some (.string y1) ∧ w'.cell? ⟨yb, 1, none⟩ = some (.string y2) ∧ w'.cell? ⟨yb, 2, none⟩ = some (.int .i64 y3))
                    (first | exact ⟨f0, f1, f2, f3, g0, g1, g2⟩ | go_keep)
                    (first
                      | (go_at_call 20
                         refine (HG.out _ ?_).mono ?_
                         · repeat (first | exact HB7.out | with_reducible refine below_drewN ?_ _ | with_reducible refine below_drew0 ?_)
                         rintro e w8 ⟨rfl, hb8⟩
                         have f0 := ukeep hb8 f0
                         have f1 := ukeep hb8 f1
                         have f2 := ukeep hb8 f2
                         have f3 := ukeep hb8 f3
                         have g0 := ukeep hb8 g0
                         have g1 := ukeep hb8 g1
                         have g2 := ukeep hb8 g2))
                  all_goals
                    go_wp2_with fail
                    exact ⟨⟨j + 1, by omega, by go_num, Lib.hid (by repeat (first | exact (ubelow_on hb8 (by repeat (first | exact HB7.out | with_reducible refine below_drewN ?_ _ | with_reducible refine below_drew0 ?_)) (Nat.le_refl _)) | with_reducible refine below_drewN ?_ _ | with_reducible refine below_drew0 ?_))⟩, by simp [intOf]; omega⟩
                · clear HGY
                  cases b1 <;> cases b2 <;> cases b3
                  all_goals first
                    | exact absurd rfl hall
                    | (clear hall
                       go_upto_region 18 with fail
                       rw [← HW7.out, ← HYB.out]
                       go_quiet (fail)
                       go_wp2_with fail
                       exact ⟨⟨j + 1, by omega, by go_num, Lib.hid (below_drewN HB7.out _)⟩, by simp [intOf]; omega⟩)
              · have HIr := Lib.hid (HI6.out.new (Chg.of_below HB.out))
                go_wp2_with fail
                exact ⟨⟨k + 1, by omega, by go_num, v2, l2, HIr, HOK2⟩, by simp [intOf]; omega⟩
          · have hz2 : (er != 0) = true := by simpa using hz
            clear hz
            go_wp2_with fail
            exact ⟨⟨k + 1, by omega, by go_num, v2, l2, HI6, HOK2⟩, by simp [intOf]; omega⟩
      · obtain ⟨f1, f2, f3, _, _, f6⟩ := calm_flush (n := 0) (st := newSt 65536) (l := l) (Ease.new 65536) (fun p hp => (by cases hp)) HOK.out (by have := (sealO_len HOK.out).1; show 0 + _ ≤ 65536; omega)
        have hFl : Calls Tryz.prog 14 #[.pointer (some ⟨ob, 0, none⟩)] wr fun e w' => e = .returned (.int .i64 0) ∧ ∃ g', NI w w' g' (savedS (newSt 65536) grpF (sealO l)) ob v' l ∧ g'.d = d := by
          refine (oflush_any (n := 0) HI.out.oi HOK.out (Ease.new 65536).good (by decide)).mono ?_
          rintro e w' ⟨he, g', h2, h3⟩
          rw [f1] at he
          rw [f2] at h2
          exact ⟨he, g', HI.out.to h2 h3, h3.d⟩
        have hOp : ∀ W g', NI w W g' (savedS (newSt 65536) grpF (sealO l)) ob v' l → g'.d = d → Calls Tryz.prog 9 #[.pointer (some ⟨d, 0, none⟩)] W fun e w' => ∃ ob2 v2 p2, e = .returned (.tuple #[.pointer (some ⟨ob2, 0, none⟩), .int .i64 0]) ∧ OHead w' ob2 p2 v2 l ∧ NI w w' g' (savedS (newSt 65536) grpF (sealO l)) ob v' l := fun W g' hi hgd => by
          have := open_saved hi.oi.disk hi.chg (fun k hk => hi.low k (.inl hk)) f6 HOK.out f3.down
          rw [hgd] at this
          refine this.mono ?_
          rintro e w' ⟨hb, ob2, v2, he, _, _, h2⟩
          exact ⟨ob2, v2, _, he, h2.oi.head, hi.new (Chg.of_below hb)⟩
        generalize savedS (newSt 65536) grpF (sealO l) = S at *
        have HFL := Lib.hid hFl
        have HOP := Lib.hid hOp
        have hl64 := HOK.out.len
        have hAg := agree_self HOK.out.ris
        have HAG := Lib.hid hAg
        clear hFl hOp f1 f2 f3 f6 hAg
        go_wp2_with fail
        refine HFL.out.mono ?_
        rintro e w4 ⟨rfl, g4, h4, hd4⟩
        have HO4 := Lib.hid (HOP.out w4 g4 h4 hd4)
        clear h4 hd4
        go_wp2_with fail
        refine HO4.out.mono ?_
        rintro e w5 ⟨ob2, v2, p2, rfl, hx5, hi5⟩
        have HA5 := Lib.hid (oall_any hx5 (by omega))
        have HI5 := Lib.hid hi5
        clear hx5 hi5
        go_wp2_with fail
        refine HA5.out.mono ?_
        rintro e w6 ⟨u1, rfl, hr6, hb6, _⟩
        have HI6 := Lib.hid (HI5.out.new (Chg.of_below hb6))
        have HR6 := Lib.hid hr6
        have HA6 := Lib.hid (oall_any HI6.out.oi.head (by omega))
        clear hr6 hb6
        go_wp2_with fail
        refine HA6.out.mono ?_
        rintro e w7 ⟨u2, rfl, hr7, hb7, _⟩
        have HI7 := Lib.hid (HI6.out.new (Chg.of_below hb7))
        have HS7 := Lib.hid (same_any_o (HR6.out.new hb7).arg hr7.arg (by omega) HAG.out)
        clear hr7 hb7
        go_wp2_with fail
        refine HS7.out.mono ?_
        rintro e w8 ⟨rfl, hb8⟩
        have HI8 := Lib.hid (HI7.out.new (Chg.of_below hb8))
        clear hb8
        go_wp2_with fail
        go_ret
        exact ⟨rfl, HI8.out.below⟩
end Go.Proofs.YtemimmnamajooaaGreat
