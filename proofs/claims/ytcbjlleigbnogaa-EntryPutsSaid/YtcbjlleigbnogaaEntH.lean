/-
  EntryPuts, walked. (Printed by mk_enth.py.)
-/
import Derived.Test.YtcbjlleigbnogaaEntG
namespace Go.Proofs.Ytcbjlleigbnogaa
open Go.RowKit Go.Deep
set_option linter.unusedVariables false
set_option linter.unusedSimpArgs false

/-- What a kind's bytes give again. -/
theorem back4 (ws : List Nat) (x0 x1 x2 x3 : Int) (h0 : 0 < offK ws 4) : ∃ p o g0 g1 g2 g3, put4 ws [x0, x1, x2, x3] = p ∧ fit4 ws [x0, x1, x2, x3] = o ∧ getOk p ws = o ∧ (get4 p ws 0 = g0 ∧ get4 p ws 1 = g1 ∧ get4 p ws 2 = g2 ∧ get4 p ws 3 = g3) ∧
    ((o = true ∧ g0 = x0 ∧ g1 = x1 ∧ g2 = x2 ∧ g3 = x3) ∨ o = false) := by
  refine ⟨_, _, _, _, _, _, rfl, rfl, ?_, ⟨rfl, rfl, rfl, rfl⟩, ?_⟩
  · cases h : fit4 ws [x0, x1, x2, x3] with
    | true => exact (put_back h).1
    | false => exact (put_none h h0).1
  · cases h : fit4 ws [x0, x1, x2, x3] with
    | true =>
      have b := (put_back h).2
      exact .inl ⟨rfl, b 0 (by decide), b 1 (by decide), b 2 (by decide), b 3 (by decide)⟩
    | false => exact .inr rfl
def Holds (W : World) (b : Nat) (cs : Array Value) : Prop := ∀ i, W.cell? ⟨b, i, none⟩ = cs[i]?
theorem holds_new (W : World) (cs : Array Value) (t : TypeId) (b : Nat) (h : b = W.heap.size) : Holds (W.alloc (.cells cs t)) b cs := by
  subst h
  intro i
  unfold World.cell?
  simp only [heap_alloc_new]
  rfl
theorem Holds.old {W : World} {b : Nat} {cs : Array Value} (h : Holds W b cs) (hb : b < W.heap.size) (o : Obj) : Holds (W.alloc o) b cs := fun i => (World.cell?_alloc_lt _ _ ⟨b, i, none⟩ hb).trans (h i)
theorem Holds.on {W W' : World} {b : Nat} {cs : Array Value} (h : Holds W b cs) {B : Nat} (hb : Below B W W') (hlt : b < B) : Holds W' b cs := fun i => (hb.cell (p := ⟨b, i, none⟩) hlt).trans (h i)

theorem Holds.lt {W : World} {b : Nat} {cs : Array Value} (h : Holds W b cs) (h0 : 0 < cs.size) : b < W.heap.size :=
  World.block_lt_of_cell? (w := W) (a := ⟨b, 0, none⟩) (h := (h 0).trans (Array.getElem?_eq_getElem h0))

set_option maxRecDepth 100000 in
set_option maxHeartbeats 4000000 in
theorem walk_EntryPuts (a0 a1 a2 a3 b0 b1 b2 b3 m0 m1 m2 m3 : Int) (w : World) :
    Calls Try.prog 3 #[.agg #[.int .i64 a0, .int .i64 a1, .int .i64 a2, .int .i64 a3], .agg #[.int .i64 b0, .int .i64 b1, .int .i64 b2, .int .i64 b3], .agg #[.int .i64 m0, .int .i64 m1, .int .i64 m2, .int .i64 m3]] w fun e w' => e = .returned (.bool true) ∧ Below w.heap.size w w' := by
  obtain ⟨p0, o0, g00, g01, g02, g03, hp0, ho0, hg0, hv0, hc0⟩ := back4 [6, 2, 5, 7] a0 a1 a2 a3 (by decide)
  have HP0 := Lib.hid hp0
  have HO0 := Lib.hid ho0
  have HG0 := Lib.hid hg0
  have HV0 := Lib.hid hv0
  clear hp0 ho0 hg0 hv0
  obtain ⟨p1, o1, g10, g11, g12, g13, hp1, ho1, hg1, hv1, hc1⟩ := back4 [5, 6, 6, 3] b0 b1 b2 b3 (by decide)
  have HP1 := Lib.hid hp1
  have HO1 := Lib.hid ho1
  have HG1 := Lib.hid hg1
  have HV1 := Lib.hid hv1
  clear hp1 ho1 hg1 hv1
  obtain ⟨p2, o2, g20, g21, g22, g23, hp2, ho2, hg2, hv2, hc2⟩ := back4 [6, 6, 6, 2] m0 m1 m2 m3 (by decide)
  have HP2 := Lib.hid hp2
  have HO2 := Lib.hid ho2
  have HG2 := Lib.hid hg2
  have HV2 := Lib.hid hv2
  clear hp2 ho2 hg2 hv2
  have hB : Below w.heap.size w (((w.alloc (.cells #[.int .i64 a0, .int .i64 a1, .int .i64 a2, .int .i64 a3] 23)).alloc (.cells #[.int .i64 b0, .int .i64 b1, .int .i64 b2, .int .i64 b3] 25)).alloc (.cells #[.int .i64 m0, .int .i64 m1, .int .i64 m2, .int .i64 m3] 27)) := ((((Below.refl _ _).alloc (Nat.le_refl _) _).alloc (by simp) _).alloc (by simp; omega) _)
  have hH0 : Holds (((w.alloc (.cells #[.int .i64 a0, .int .i64 a1, .int .i64 a2, .int .i64 a3] 23)).alloc (.cells #[.int .i64 b0, .int .i64 b1, .int .i64 b2, .int .i64 b3] 25)).alloc (.cells #[.int .i64 m0, .int .i64 m1, .int .i64 m2, .int .i64 m3] 27)) w.heap.size #[.int .i64 a0, .int .i64 a1, .int .i64 a2, .int .i64 a3] := ((holds_new w _ _ _ rfl).old (by simp) _).old (by simp; omega) _
  have hH1 : Holds (((w.alloc (.cells #[.int .i64 a0, .int .i64 a1, .int .i64 a2, .int .i64 a3] 23)).alloc (.cells #[.int .i64 b0, .int .i64 b1, .int .i64 b2, .int .i64 b3] 25)).alloc (.cells #[.int .i64 m0, .int .i64 m1, .int .i64 m2, .int .i64 m3] 27)) (w.heap.size + 1) #[.int .i64 b0, .int .i64 b1, .int .i64 b2, .int .i64 b3] := (holds_new _ _ _ _ (by simp)).old (by simp) _
  have hH2 : Holds (((w.alloc (.cells #[.int .i64 a0, .int .i64 a1, .int .i64 a2, .int .i64 a3] 23)).alloc (.cells #[.int .i64 b0, .int .i64 b1, .int .i64 b2, .int .i64 b3] 25)).alloc (.cells #[.int .i64 m0, .int .i64 m1, .int .i64 m2, .int .i64 m3] 27)) (w.heap.size + 1 + 1) #[.int .i64 m0, .int .i64 m1, .int .i64 m2, .int .i64 m3] := holds_new _ _ _ _ (by simp)
  have hS : w.heap.size + 1 + 1 + 1 = ((((w.alloc (.cells #[.int .i64 a0, .int .i64 a1, .int .i64 a2, .int .i64 a3] 23)).alloc (.cells #[.int .i64 b0, .int .i64 b1, .int .i64 b2, .int .i64 b3] 25)).alloc (.cells #[.int .i64 m0, .int .i64 m1, .int .i64 m2, .int .i64 m3] 27))).heap.size := by simp
  obtain ⟨W, hW⟩ : ∃ W, W = (((w.alloc (.cells #[.int .i64 a0, .int .i64 a1, .int .i64 a2, .int .i64 a3] 23)).alloc (.cells #[.int .i64 b0, .int .i64 b1, .int .i64 b2, .int .i64 b3] 25)).alloc (.cells #[.int .i64 m0, .int .i64 m1, .int .i64 m2, .int .i64 m3] 27)) := ⟨_, rfl⟩
  rw [← hW] at hB hH0 hH1 hH2 hS
  have HB := Lib.hid hB
  have HH0 := Lib.hid hH0
  have HH1 := Lib.hid hH1
  have HH2 := Lib.hid hH2
  have HS := Lib.hid hS
  have HW := Lib.hid hW
  clear hB hH0 hH1 hH2 hS hW
  have HC0 := Lib.hid hc0
  have HC1 := Lib.hid hc1
  have HC2 := Lib.hid hc2
  clear hc0 hc1 hc2
  go_enter Try.func3, Try.ntmps3
  go_wp2_with fail
  rw [← HW.out]
  refine (eawake_any _).mono ?_
  rintro e w1 ⟨rfl, hb⟩
  have HB1 := Lib.hid hb
  clear hb
  have k0 := HH0.out.on HB1.out (show w.heap.size < W.heap.size by rw [← HS.out]; omega)
  unfold Holds at k0
  have k1 := HH1.out.on HB1.out (show w.heap.size + 1 < W.heap.size by rw [← HS.out]; omega)
  unfold Holds at k1
  have k2 := HH2.out.on HB1.out (show w.heap.size + 1 + 1 < W.heap.size by rw [← HS.out]; omega)
  unfold Holds at k2
  go_wp2_with fail
  refine (placePut_any a0 a1 a2 a3 _).mono ?_
  rintro e w2 ⟨rfl, hb⟩
  rw [HP0.out, HO0.out]
  have HB2 := Lib.hid (below_on hb HB1.out (Nat.le_refl _))
  clear hb k0 k1 k2
  have k0 := HH0.out.on HB2.out (show w.heap.size < W.heap.size by rw [← HS.out]; omega)
  unfold Holds at k0
  have k1 := HH1.out.on HB2.out (show w.heap.size + 1 < W.heap.size by rw [← HS.out]; omega)
  unfold Holds at k1
  have k2 := HH2.out.on HB2.out (show w.heap.size + 1 + 1 < W.heap.size by rw [← HS.out]; omega)
  unfold Holds at k2
  go_wp2_with fail
  refine (linkPut_any b0 b1 b2 b3 _).mono ?_
  rintro e w3 ⟨rfl, hb⟩
  rw [HP1.out, HO1.out]
  have HB3 := Lib.hid (below_on hb HB2.out (Nat.le_refl _))
  clear hb k0 k1 k2
  have k0 := HH0.out.on HB3.out (show w.heap.size < W.heap.size by rw [← HS.out]; omega)
  unfold Holds at k0
  have k1 := HH1.out.on HB3.out (show w.heap.size + 1 < W.heap.size by rw [← HS.out]; omega)
  unfold Holds at k1
  have k2 := HH2.out.on HB3.out (show w.heap.size + 1 + 1 < W.heap.size by rw [← HS.out]; omega)
  unfold Holds at k2
  go_wp2_with fail
  refine (markPut_any m0 m1 m2 m3 _).mono ?_
  rintro e w4 ⟨rfl, hb⟩
  rw [HP2.out, HO2.out]
  have HB4 := Lib.hid (below_on hb HB3.out (Nat.le_refl _))
  clear hb k0 k1 k2
  have k0 := HH0.out.on HB4.out (show w.heap.size < W.heap.size by rw [← HS.out]; omega)
  unfold Holds at k0
  have k1 := HH1.out.on HB4.out (show w.heap.size + 1 < W.heap.size by rw [← HS.out]; omega)
  unfold Holds at k1
  have k2 := HH2.out.on HB4.out (show w.heap.size + 1 + 1 < W.heap.size by rw [← HS.out]; omega)
  unfold Holds at k2
  go_wp2_with fail
  refine (lbytes_any [6, 2, 5, 7] wide_place 6 2 5 7 rfl a0 a1 a2 a3 _).mono ?_
  rintro e w5 ⟨rfl, hb⟩
  rw [HP0.out, HO0.out]
  have HB5 := Lib.hid (below_on hb HB4.out (Nat.le_refl _))
  clear hb k0 k1 k2
  have k0 := HH0.out.on HB5.out (show w.heap.size < W.heap.size by rw [← HS.out]; omega)
  unfold Holds at k0
  have k1 := HH1.out.on HB5.out (show w.heap.size + 1 < W.heap.size by rw [← HS.out]; omega)
  unfold Holds at k1
  have k2 := HH2.out.on HB5.out (show w.heap.size + 1 + 1 < W.heap.size by rw [← HS.out]; omega)
  unfold Holds at k2
  go_wp2_with fail
  refine (lbytes_any [5, 6, 6, 3] wide_link 5 6 6 3 rfl b0 b1 b2 b3 _).mono ?_
  rintro e w6 ⟨rfl, hb⟩
  rw [HP1.out, HO1.out]
  have HB6 := Lib.hid (below_on hb HB5.out (Nat.le_refl _))
  clear hb k0 k1 k2
  have k0 := HH0.out.on HB6.out (show w.heap.size < W.heap.size by rw [← HS.out]; omega)
  unfold Holds at k0
  have k1 := HH1.out.on HB6.out (show w.heap.size + 1 < W.heap.size by rw [← HS.out]; omega)
  unfold Holds at k1
  have k2 := HH2.out.on HB6.out (show w.heap.size + 1 + 1 < W.heap.size by rw [← HS.out]; omega)
  unfold Holds at k2
  go_wp2_with fail
  refine (lbytes_any [6, 6, 6, 2] wide_mark 6 6 6 2 rfl m0 m1 m2 m3 _).mono ?_
  rintro e w7 ⟨rfl, hb⟩
  rw [HP2.out, HO2.out]
  have HB7 := Lib.hid (below_on hb HB6.out (Nat.le_refl _))
  clear hb k0 k1 k2
  have k0 := HH0.out.on HB7.out (show w.heap.size < W.heap.size by rw [← HS.out]; omega)
  unfold Holds at k0
  have k1 := HH1.out.on HB7.out (show w.heap.size + 1 < W.heap.size by rw [← HS.out]; omega)
  unfold Holds at k1
  have k2 := HH2.out.on HB7.out (show w.heap.size + 1 + 1 < W.heap.size by rw [← HS.out]; omega)
  unfold Holds at k2
  go_wp2_with fail
  refine (placeGet_any p0 _).mono ?_
  rintro e w8 ⟨he, hb⟩
  rw [HG0.out, HV0.out.1, HV0.out.2.1, HV0.out.2.2.1, HV0.out.2.2.2] at he
  subst he
  have hb8 := below_on hb HB7.out (Nat.le_refl _)
  have hx8 : Below W.heap.size W (w8.alloc (.cells #[.int .i64 g00, .int .i64 g01, .int .i64 g02, .int .i64 g03] 23)) := hb8.alloc hb8.size _
  have hj : Holds (w8.alloc (.cells #[.int .i64 g00, .int .i64 g01, .int .i64 g02, .int .i64 g03] 23)) w8.heap.size #[.int .i64 g00, .int .i64 g01, .int .i64 g02, .int .i64 g03] := holds_new _ _ _ _ rfl
  have HB8 := Lib.hid hx8
  have J0 := Lib.hid hj
  clear hb hb8 hx8 hj k0 k1 k2
  have k0 := HH0.out.on HB8.out (show w.heap.size < W.heap.size by rw [← HS.out]; omega)
  unfold Holds at k0
  have k1 := HH1.out.on HB8.out (show w.heap.size + 1 < W.heap.size by rw [← HS.out]; omega)
  unfold Holds at k1
  have k2 := HH2.out.on HB8.out (show w.heap.size + 1 + 1 < W.heap.size by rw [← HS.out]; omega)
  unfold Holds at k2
  go_wp2_with fail
  refine (linkGet_any p1 _).mono ?_
  rintro e w9 ⟨he, hb⟩
  rw [HG1.out, HV1.out.1, HV1.out.2.1, HV1.out.2.2.1, HV1.out.2.2.2] at he
  subst he
  have hb9 := below_on hb HB8.out (Nat.le_refl _)
  have j0 := Holds.on J0.out hb (by simp)
  have hx9 : Below W.heap.size W (w9.alloc (.cells #[.int .i64 g10, .int .i64 g11, .int .i64 g12, .int .i64 g13] 25)) := hb9.alloc hb9.size _
  have hj : Holds (w9.alloc (.cells #[.int .i64 g10, .int .i64 g11, .int .i64 g12, .int .i64 g13] 25)) w9.heap.size #[.int .i64 g10, .int .i64 g11, .int .i64 g12, .int .i64 g13] := holds_new _ _ _ _ rfl
  have hj0 : Holds (w9.alloc (.cells #[.int .i64 g10, .int .i64 g11, .int .i64 g12, .int .i64 g13] 25)) w8.heap.size #[.int .i64 g00, .int .i64 g01, .int .i64 g02, .int .i64 g03] := Holds.old j0 (Holds.lt j0 (Nat.zero_lt_succ _)) _
  have HB9 := Lib.hid hx9
  have J1 := Lib.hid hj
  have J0 := Lib.hid hj0
  clear hb hb9 hx9 hj k0 k1 k2 j0 hj0
  have k0 := HH0.out.on HB9.out (show w.heap.size < W.heap.size by rw [← HS.out]; omega)
  unfold Holds at k0
  have k1 := HH1.out.on HB9.out (show w.heap.size + 1 < W.heap.size by rw [← HS.out]; omega)
  unfold Holds at k1
  have k2 := HH2.out.on HB9.out (show w.heap.size + 1 + 1 < W.heap.size by rw [← HS.out]; omega)
  unfold Holds at k2
  go_wp2_with fail
  refine (markGet_any p2 _).mono ?_
  rintro e w10 ⟨he, hb⟩
  rw [HG2.out, HV2.out.1, HV2.out.2.1, HV2.out.2.2.1, HV2.out.2.2.2] at he
  subst he
  have hb10 := below_on hb HB9.out (Nat.le_refl _)
  have j0 := Holds.on J0.out hb (Holds.lt J0.out (Nat.zero_lt_succ _))
  have j1 := Holds.on J1.out hb (by simp)
  have hx10 : Below W.heap.size W (w10.alloc (.cells #[.int .i64 g20, .int .i64 g21, .int .i64 g22, .int .i64 g23] 27)) := hb10.alloc hb10.size _
  have hj : Holds (w10.alloc (.cells #[.int .i64 g20, .int .i64 g21, .int .i64 g22, .int .i64 g23] 27)) w10.heap.size #[.int .i64 g20, .int .i64 g21, .int .i64 g22, .int .i64 g23] := holds_new _ _ _ _ rfl
  have hj0 : Holds (w10.alloc (.cells #[.int .i64 g20, .int .i64 g21, .int .i64 g22, .int .i64 g23] 27)) w8.heap.size #[.int .i64 g00, .int .i64 g01, .int .i64 g02, .int .i64 g03] := Holds.old j0 (Holds.lt j0 (Nat.zero_lt_succ _)) _
  have hj1 : Holds (w10.alloc (.cells #[.int .i64 g20, .int .i64 g21, .int .i64 g22, .int .i64 g23] 27)) w9.heap.size #[.int .i64 g10, .int .i64 g11, .int .i64 g12, .int .i64 g13] := Holds.old j1 (Holds.lt j1 (Nat.zero_lt_succ _)) _
  have HB10 := Lib.hid hx10
  have J2 := Lib.hid hj
  have J0 := Lib.hid hj0
  have J1 := Lib.hid hj1
  clear hb hb10 hx10 hj k0 k1 k2 j0 hj0 j1 hj1
  have k0 := HH0.out.on HB10.out (show w.heap.size < W.heap.size by rw [← HS.out]; omega)
  unfold Holds at k0
  have k1 := HH1.out.on HB10.out (show w.heap.size + 1 < W.heap.size by rw [← HS.out]; omega)
  unfold Holds at k1
  have k2 := HH2.out.on HB10.out (show w.heap.size + 1 + 1 < W.heap.size by rw [← HS.out]; omega)
  unfold Holds at k2
  have j0 := J0.out
  unfold Holds at j0
  have j1 := J1.out
  unfold Holds at j1
  have j2 := J2.out
  unfold Holds at j2
  obtain ⟨h1, rfl, rfl, rfl, rfl⟩ | h1 := HC0.out
  all_goals (obtain ⟨h2, rfl, rfl, rfl, rfl⟩ | h2 := HC1.out)
  all_goals (obtain ⟨h3, rfl, rfl, rfl, rfl⟩ | h3 := HC2.out)
  all_goals subst h1
  all_goals subst h2
  all_goals subst h3
  all_goals
    go_wp2_with fail
    go_ret
    exact ⟨rfl, HB.out.trans (HB10.out.mono HB.out.size)⟩
end Go.Proofs.Ytcbjlleigbnogaa
