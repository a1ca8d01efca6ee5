/- A part. -/
import Derived.Test.YtkbgococmkcjaaaWap8
import Derived.Test.YtkbgococmkcjaaaWap20
set_option linter.unusedVariables false
set_option linter.unusedSimpArgs false
namespace Go.Proofs.Ytkbgococmkcjaaa
open Go.RowKit Go.Deep
attribute [local go_sem] fr_opt
theorem wheads_cells {w : World} {base : Nat} {v : Value} {L : List Nat} (h : w.ownsRow base 3 1 v 16 (L.map wNum)) (hl : L.length = 16) :
    ∃ q c, v = .slice (some ⟨q, 0, none⟩) 16 c ∧ base ≤ q ∧ q < w.heap.size ∧ ∀ j, j < 16 → w.cell? ⟨q, j, none⟩ = some (.int .i64 (L.getD j 0 : Nat)) := by
  obtain ⟨q, c, rfl⟩ := wown_slice (n := 15) h
  refine ⟨q, c, rfl, (h.lt q rfl).1, (h.lt q rfl).2, fun j hj => ?_⟩
  have h1 := h.cellAt j (by omega)
  rw [h1, List.getElem?_map, List.getD_eq_getElem?_getD, List.getElem?_eq_getElem (by omega)]
  rfl
set_option maxHeartbeats 8000000 in
set_option maxRecDepth 100000 in
theorem walk_WheelApart (v : Value) (os : List (Int × Int)) (w : World) (hv : Prs .u16 w v os) (hm : os.length ≤ maxLen) (hf : ∀ x ∈ os, (Lit.int .u16 x.1).wf = true ∧ (Lit.int .u16 x.2).wf = true) :
    Calls Try.prog 6 #[v] w fun e w' => e = .returned (.bool true) ∧ Below w.heap.size w w' := by
  obtain ⟨a, cap, rfl⟩ := hv.form
  have HAW := Lib.hid (wawake_any w)
  have hcl : ∀ W, Below w.heap.size w W → ∀ k, k < os.length → ∃ b o, a = some ⟨b, o, none⟩ ∧ PrAt .u16 W b (o + k * 2) (os.getD k (0, 0)) := fun W hb k hk => (hv.below hb).at_ hk
  have hwf : ∀ k, k < os.length → (0 ≤ (os.getD k (0, 0)).1 ∧ (os.getD k (0, 0)).1 ≤ 65535) ∧ 0 ≤ (os.getD k (0, 0)).2 ∧ (os.getD k (0, 0)).2 ≤ 65535 := fun k hk => by
    rw [List.getD_eq_getElem?_getD, List.getElem?_eq_getElem hk]
    exact ⟨wwfu16 (hf _ (List.getElem_mem hk)).1, wwfu16 (hf _ (List.getElem_mem hk)).2⟩
  obtain ⟨N, hN⟩ : ∃ N, N = os.length := ⟨_, rfl⟩
  have HCL := Lib.hid hcl
  have HWF := Lib.hid hwf
  have HN := Lib.hid hN
  rw [← hN]
  clear hcl hwf hN hv hf hm
  by_cases h60 : 60 < N
  · have h60' : (60 : Int) < (N : Int) := by omega
    clear h60
    go_enter Try.func6, Try.ntmps6
    go_wp2_with fail
    refine HAW.out.mono ?_
    rintro e w1 ⟨rfl, hb1⟩
    have HB1 := Lib.hid hb1
    clear hb1
    go_wp2_with fail
    go_ret
    exact ⟨rfl, HB1.out⟩
  · have h60' : ¬ (60 : Int) < (N : Int) := by omega
    have hN60 : N ≤ 60 := by omega
    clear h60
    go_enter Try.func6, Try.ntmps6
    go_wp2_with fail
    refine HAW.out.mono ?_
    rintro e w1 ⟨rfl, hb1⟩
    have HB1 := Lib.hid hb1
    clear hb1
    go_wp2_with fail
    refine (new_any 1000 w1).mono ?_
    rintro e w2 ⟨rfl, hd2, hb2⟩
    have HQ := Lib.hid (wnew_first (w0 := w) (Chg.of_below HB1.out) 0 hd2 hb2 (by decide) (by decide))
    clear hd2 hb2
    go_wp2_with fail
    refine HQ.out.mono ?_
    rintro e w3 ⟨wb, g3, rfl, _, h3, _⟩
    have HI3 := Lib.hid h3
    clear h3
    obtain ⟨st3, hst⟩ : ∃ st, st = wBegS (newSt 1000) (wNames wH (newSt 1000)) := ⟨_, rfl⟩
    rw [← hst] at HI3
    clear hst
    go_wp2_with fail
    go_loopw [27] (fun i wr => ∃ (k n : Nat) (g : Gh) (st : St) (L : List Nat), k ≤ N ∧ i = .int .i64 (k : Int) ∧ n ≤ 2 + k ∧ Hid (WhI w wr wb g st n 0 L)) (fun i _ => N - (intOf i).toNat)
    case atStart => exact ⟨0, 2, g3, st3, wZero, Nat.zero_le _, rfl, Nat.le_refl _, HI3⟩
    case round =>
      obtain ⟨k, n, g, st, L, hk, rfl, hn, HI⟩ := hrel
      by_cases hlt : k < N
      · have hlt' : (k : Int) < (N : Int) := by omega
        obtain ⟨b, o, rfl, hc0, hc1⟩ := HCL.out wr HI.out.below k (by rw [← HN.out]; exact hlt)
        obtain ⟨⟨p0, p1⟩, q0, q1⟩ := HWF.out k (by rw [← HN.out]; exact hlt)
        obtain ⟨x, hx⟩ : ∃ x, x = os.getD k (0, 0) := ⟨_, rfl⟩
        rw [← hx] at hc0 hc1 p0 p1 q0 q1
        obtain ⟨p, q⟩ := x
        dsimp only at hc0 hc1 p0 p1 q0 q1
        obtain ⟨s, hdm, s0, s1⟩ : ∃ s : Nat, p.tmod 16 = (s : Int) ∧ 0 ≤ s ∧ s < 16 := ⟨(p.tmod 16).toNat, by rw [Int.tmod_eq_emod_of_nonneg p0]; omega, by omega, by rw [Int.tmod_eq_emod_of_nonneg p0]; omega⟩
        obtain ⟨W4, hW4⟩ : ∃ W, W = wr.alloc (.cells #[.int .u16 p, .int .u16 q] 55) := ⟨_, rfl⟩
        have hc4 : Chg (fun _ => False) wr W4 := hW4 ▸ Chg.alloc _ (Chg.refl _ _) _
        have h4 := HI.out.new hc4
        have j0 : W4.cell? ⟨wr.heap.size, 0, none⟩ = some (.int .u16 p) := by rw [hW4]; simp
        have j1 : W4.cell? ⟨wr.heap.size, 1, none⟩ = some (.int .u16 q) := by rw [hW4]; simp
        have hXf : wr.heap.size ∉ g.fp := fun hx => by have := HI.out.disk.lt _ hx; omega
        have hXs : wr.heap.size < W4.heap.size := by rw [hW4, World.size_alloc]; omega
        obtain ⟨X, hX⟩ : ∃ X, X = wr.heap.size := ⟨_, rfl⟩
        have HW4 := Lib.hid hW4
        have HX := Lib.hid hX
        rw [← hX] at j0 j1 hXf hXs
        have HXF := Lib.hid hXf
        have HXS := Lib.hid hXs
        have H4 := Lib.hid h4
        have HH4 := Lib.hid (wheads_any h4)
        have j0' := Lib.hid j0
        have j1' := Lib.hid j1
        clear hx hlt hc4 h4 hW4 hX hXf hXs
        go_upto_region 11 with fail
        rw [← HW4.out, ← HX.out]
        go_wp2_with fail
        refine HH4.out.mono ?_
        rintro e w5 ⟨v5, rfl, ho5, hb5⟩
        obtain ⟨Q1, c1, rfl, hQ1, hQ1s, hq1⟩ := wheads_cells ho5 H4.out.len
        have j0 := (hb5.cell (p := ⟨X, 0, none⟩) HXS.out).trans j0
        have j1 := (hb5.cell (p := ⟨X, 1, none⟩) HXS.out).trans j1
        have hc5 : Chg (fun _ => False) W4 w5 := Chg.of_below hb5
        have h5 := H4.out.new hc5
        have HS5 := Lib.hid (wset_any h5 (by omega) (s : Int) q)
        have hE5 : wSetE (s : Int) q = 0 := by unfold wSetE; rw [if_neg (by omega), if_neg (by omega)]
        have hL5 : wSetL L (s : Int) q = L.set s q.toNat := by unfold wSetL; rw [if_pos hE5]; simp
        have HE5 := Lib.hid hE5
        have HL5 := Lib.hid hL5
        have HQ1 := Lib.hid (And.intro hQ1 hQ1s)
        have HC1 := Lib.hid hq1
        have HLN := Lib.hid H4.out.len
        have hG5 : Hid (∀ x ∈ g.fp, x < wr.heap.size) := Lib.hid (fun x hx => HI.out.disk.lt x hx)
        have HSZ5 : Hid (X < w5.heap.size) := Lib.hid (Nat.lt_of_lt_of_le HXS.out hb5.size)
        have HN5 : Hid (∀ x ∈ g.fp, x < W4.heap.size) := Lib.hid (fun x hx => H4.out.disk.lt x hx)
        clear ho5 hb5 hc5 h5 hE5 hL5 hq1 hQ1 hQ1s
        go_wp2_with fail
        refine HS5.out.mono ?_
        rintro e w6 ⟨he6, g6, st6, h6, t6, _, _, _⟩
        rw [HE5.out] at he6
        subst he6
        rw [HL5.out] at h6
        have j0 := t6.chg.cell (p := ⟨X, 0, none⟩) j0 HXF.out
        have j1 := t6.chg.cell (p := ⟨X, 1, none⟩) j1 HXF.out
        have hq6 : ∀ j, j < 16 → w6.cell? ⟨Q1, j, none⟩ = some (.int .i64 (L.getD j 0 : Nat)) := fun j hj => t6.chg.cell (p := ⟨Q1, j, none⟩) (HC1.out j hj) (fun (hx : Q1 ∈ g.fp) => by have := HN5.out _ hx; have := HQ1.out.1; omega)
        have HC6 := Lib.hid hq6
        have HH6 := Lib.hid (wheads_any h6)
        have H6 := Lib.hid h6
        have HQ6 : Hid (Q1 < w6.heap.size ∧ X < w6.heap.size) := Lib.hid ⟨Nat.lt_of_lt_of_le HQ1.out.2 t6.chg.size, Nat.lt_of_lt_of_le HSZ5.out t6.chg.size⟩
        clear h6 t6 hq6
        go_wp2_with fail
        refine HH6.out.mono ?_
        rintro e w7 ⟨v7, rfl, ho7, hb7⟩
        obtain ⟨Q2, c2, rfl, hQ2, hQ2s, hq7⟩ := wheads_cells ho7 (by rw [List.length_set]; exact HLN.out)
        have j0 := (hb7.cell (p := ⟨X, 0, none⟩) HQ6.out.2).trans j0
        have j1 := (hb7.cell (p := ⟨X, 1, none⟩) HQ6.out.2).trans j1
        have HC2 := Lib.hid hq7
        have hq71 : ∀ j, j < 16 → w7.cell? ⟨Q1, j, none⟩ = some (.int .i64 (L.getD j 0 : Nat)) := fun j hj => (hb7.cell (p := ⟨Q1, j, none⟩) HQ6.out.1).trans (HC6.out j hj)
        have HC1 := Lib.hid hq71
        have H7 := Lib.hid (H6.out.new (Chg.of_below hb7))
        clear ho7 hb7 hq7 hq71 hQ2 hQ2s
        go_wp2_with fail
        go_loopw [67] (fun i wq => ∃ (j d : Nat), j ≤ 16 ∧ i = .int .i64 (j : Int) ∧ wq = w7.drewN d) (fun i _ => 16 - (intOf i).toNat)
        case atStart => exact ⟨0, 0, Nat.zero_le _, rfl, rfl⟩
        case round =>
          obtain ⟨j, d, hj, rfl, rfl⟩ := hrel
          by_cases hlt : j < 16
          · have hlt2 : (j : Int) < 16 := by omega
            have a1 := HC1.out j hlt
            have a2 := HC2.out j hlt
            by_cases hjs : j = s
            · subst hjs
              have e2 : ((L.set j q.toNat).getD j 0 : Int) = q := by
                rw [List.getD_eq_getElem?_getD, List.getElem?_set_self (by rw [HLN.out]; exact hlt)]
                simp
                omega
              rw [e2] at a2
              obtain ⟨z, hz⟩ : ∃ z : Int, z = (L.getD j 0 : Nat) := ⟨_, rfl⟩
              rw [← hz] at a1
              clear e2 hz
              have b1 : ((j : Int) == (j : Int)) = true := by simp
              have b2 : ((j : Int) != (j : Int)) = false := by simp
              have b3 : (q != q) = false := by simp
              go_wp2_with fail
              go_quiet (fail)
              go_wp2_with fail
              exact ⟨⟨j + 1, _, by omega, by go_num, by first | rfl | exact drewN_add _ _ _⟩, by simp [intOf]; omega⟩
            · have e2 : ((L.set s q.toNat).getD j 0 : Nat) = L.getD j 0 := by
                rw [List.getD_eq_getElem?_getD, List.getElem?_set_ne (fun h => hjs h.symm), ← List.getD_eq_getElem?_getD]
              rw [e2] at a2
              obtain ⟨z, hz⟩ : ∃ z : Int, z = (L.getD j 0 : Nat) := ⟨_, rfl⟩
              rw [← hz] at a1 a2
              have b1 : ((j : Int) == (s : Int)) = false := by simp; omega
              have b2 : ((j : Int) != (s : Int)) = true := by simp; omega
              have b3 : (z != z) = false := by simp
              clear e2 hz hjs
              go_wp2_with fail
              go_quiet (fail)
              go_wp2_with fail
              exact ⟨⟨j + 1, _, by omega, by go_num, by first | rfl | exact drewN_add _ _ _⟩, by simp [intOf]; omega⟩
          · obtain rfl : j = 16 := by omega
            have HE : Hid (WhI w (w7.drewN d) wb g6 st6 (n + 1) 0 (L.set s q.toNat)) := Lib.hid (H7.out.new ((Chg.refl _ _).drewN d))
            go_wp2_with fail
            exact ⟨⟨k + 1, n + 1, g6, st6, _, by omega, by go_num, by omega, HE⟩, by simp [intOf]; omega⟩
      · obtain rfl : N = k := by omega
        have HB := Lib.hid HI.out.below
        clear HI
        go_wp2_with fail
        go_ret
        exact ⟨rfl, HB.out⟩
end Go.Proofs.Ytkbgococmkcjaaa
