/-
  SegPlays: what stands behind the switch: the row is held against what it is to be.
-/
import Derived.Test.YtgephceihkkokaaGreatDoorSPcAll
namespace Go.Proofs.YtgephceihkkokaaGreatDoor
open Go.RowKit Go.Deep
set_option linter.unusedVariables false
set_option linter.unusedSimpArgs false
attribute [local go_sem] fr_opt
/-- The frame behind a round. -/
def TlI (f : Nat → Value) (w1 : World) (b d n z i0 : Nat) (B : List UInt8) (sy : Int) (any : Bool) (K K2 : Nat) (x : OpR) (a : Act) (w : World) : Prop := ∃ f', a = Fr 380 f' ∧ f' 0 = f 0 ∧ f' 1 = f 1 ∧ f' 5 = f 5 ∧ f' 6 = f 6 ∧ f' 8 = f 8 ∧ f' 51 = f 51 ∧ f' 52 = f 52 ∧ f' 53 = f 53 ∧ PX w1 w b d n z i0 B sy any K K2 x
/-- A call that only adds to memory. -/
def Adds (v : Value) (w : World) (e : Ending) (w' : World) : Prop := e = .returned v ∧ Below w.heap.size w w'
set_option maxHeartbeats 16000000 in
set_option maxRecDepth 100000 in
theorem tl_any (f : Nat → Value) (w1 w4 : World) (b d n z i0 : Nat) (B : List UInt8) (sy : Int) (any : Bool) (K K2 : Nat) (s : ByteArray) (bg E R : Nat) (x : OpR) (f0 : f 0 = .int .i64 (z : Int)) (f5 : f 5 = .pointer (some ⟨d, 0, none⟩)) (f6 : f 6 = .pointer (some ⟨b, 0, none⟩)) (f8 : f 8 = .pointer (some ⟨K, 0, none⟩)) (hn : n ≤ 300) (hpx : PX w1 w4 b d n z i0 B sy any K K2 x) (hs : s = ⟨B.toArray⟩) (hss : s.size = B.length) (hbg : bg = z * i0) (hE : E = bg + s.size) (hR : R = E % z) (hz1 : 16 ≤ z) (hz2 : z ≤ 4096) (hE9 : E ≤ 99000000) (Q : Exit → Act → World → Prop) (hQ : ∀ a w, TlI f w1 b d n z i0 B sy any K K2 x a w → Q .normal a w) :
    Code.wp Tryz.prog tlC Q (Fr 380 f) w4 := by
  have HEND := Lib.hid (fun W => rowend_E s bg E sy any hE (by omega) W)
  have hRz : R < z := by rw [hR]; exact Nat.mod_lt _ (by omega)
  have hRi : (E : Int) % (z : Int) = (R : Int) := by rw [hR]; exact (Int.natCast_emod E z).symm
  have hB0 : (bg : Int) % (z : Int) = 0 := by rw [hbg, ← Int.natCast_emod, Nat.mul_mod_right]; rfl
  have hbg9 : bg ≤ 99000000 := by omega
  have hss9 : s.size ≤ 99000000 := by omega
  have hz9 : ¬ z = 0 := by omega
  obtain ⟨lf, hlf⟩ : ∃ lf, lf = min z s.size := ⟨_, rfl⟩
  have hp := hpx.1.play
  have HPB : Hid (∀ W, Below w4.heap.size w4 W → Calls Tryz.prog 18 #[.pointer (some ⟨b, 0, none⟩)] W (Adds (.int .i64 (bg : Int)) W)) := Lib.hid fun W hW => by
    rw [hbg]
    exact (play_begin (hp.new (Chg.of_below hW))).mono fun e w' ⟨h1, h2⟩ => ⟨h1, h2 ▸ Below.refl _ _⟩
  have HPE : Hid (∀ W, Below w4.heap.size w4 W → Calls Tryz.prog 19 #[.pointer (some ⟨b, 0, none⟩)] W (Adds (.int .i64 (E : Int)) W)) := Lib.hid fun W hW => by
    rw [hE, hss, hbg]
    exact (play_end (hp.new (Chg.of_below hW))).mono fun e w' ⟨h1, h2⟩ => ⟨h1, h2 ▸ Below.refl _ _⟩
  have HPS : Hid (∀ W, Below w4.heap.size w4 W → Calls Tryz.prog 20 #[.pointer (some ⟨b, 0, none⟩)] W (Adds (.int .i64 sy) W)) := Lib.hid fun W hW =>
    (play_synced (hp.new (Chg.of_below hW))).mono fun e w' ⟨h1, h2⟩ => ⟨h1, h2 ▸ Below.refl _ _⟩
  have HPR : Hid (∀ W, Below w4.heap.size w4 W → Calls Tryz.prog 21 #[.pointer (some ⟨b, 0, none⟩)] W (Adds (.int .i64 ((z : Int) - (R : Int))) W)) := Lib.hid fun W hW => by
    rw [hR, hE, hss, hbg]
    exact (play_room (hp.new (Chg.of_below hW))).mono fun e w' ⟨h1, q, h2⟩ => ⟨h1, h2 ▸ below_drewN (Below.refl _ _) q⟩
  have HPL : Hid (∀ W, Below w4.heap.size w4 W → Calls Tryz.prog 22 #[.pointer (some ⟨b, 0, none⟩), .int .i64 (bg : Int)] W (Adds (.int .i64 (lf : Int)) W)) := Lib.hid fun W hW => by
    rw [hlf, hss, hbg]
    exact (play_left (hp.new (Chg.of_below hW))).mono fun e w' ⟨h1, q, h2⟩ => ⟨h1, h2 ▸ below_drewN (Below.refl _ _) q⟩
  have HPF : Hid (∀ W, Below w4.heap.size w4 W → Calls Tryz.prog 23 #[.pointer (some ⟨d, 0, none⟩), .int .i64 z, .agg #[.string s, .int .i64 (bg : Int), .int .i64 sy, .bool any]] W (Adds (.bool true) W)) := Lib.hid fun W hW => by
    have h1 := files_any (hp.new (Chg.of_below hW)) hn s hs sy
    rw [← hbg] at h1
    exact h1
  have HP4 := Lib.hid hpx
  have HX4 : Hid (XCells w4 K K2 s bg sy any x) := Lib.hid (xcells_of hpx.1 hs hbg)
  have hlf2 : min (z : Int) (s.size : Int) = (lf : Int) := by omega
  have hlf0 : s.size = 0 → lf = 0 := by omega
  have HE := Lib.hid hE
  have HRI := Lib.hid hRi
  have HLF := Lib.hid hlf2
  have HB0 := Lib.hid hB0
  have HQ := Lib.hid hQ
  obtain ⟨c, hc⟩ : ∃ c, c = decide ((bg : Int) < (E : Int)) := ⟨_, rfl⟩
  have HC := Lib.hid hc
  clear hs hss hbg hE hR hRi hB0 hlf hlf2 hp hpx hQ hc
  rw [fr_lit380 f, f0, f5, f6, f8]
  conv => arg 2; whnf
  go_upto_region 63 with fail
  refine region_inv' (n := 380) rfl rfl (by kernel_rfl) (by kernel_rfl) (fun i v _ => match i with | 0 => v = .agg #[.string s, .int .i64 (bg : Int), .int .i64 sy, .bool any] | 1 => v = .int .i64 (E : Int) | 2 => v = .pointer (some ⟨K, 1, none⟩) | 3 => v = .int .i64 (bg : Int) | 4 => v = .bool c | _ => True)
    (fun w' => Below w4.heap.size w4 w') (fun w' w2 => Below w4.heap.size w' w2) (fun w' => Below.refl _ _) (fun _ _ _ _ _ h => h) (Below.refl _ _).drew ?_ ?_
  · simp only [AllAt]
    refine ⟨?_, ?_, ?_, ?_, ?_, trivial⟩
    · refine StepAt.plain rfl ?_
      intro f w' hG hfr hp Kx hK
      have g8 : f 8 = .pointer (some ⟨K, 0, none⟩) := hfr 8 (by kernel_rfl)
      clear hfr hp
      obtain ⟨q0, q1, q2, q3, q4, q5, q6, q7, q8⟩ := HX4.out.new hG
      clear q4 q5 q6 q7 q8
      go_simp
      exact hK _ _ rfl hG (Below.refl _ _)
    · refine StepAt.plain rfl ?_
      intro f w' hG hfr hp Kx hK
      have g319 : f 319 = .agg #[.string s, .int .i64 (bg : Int), .int .i64 sy, .bool any] := hp 0 _ 319 rfl rfl (by kernel_rfl)
      clear hfr hp
      go_simp
      refine (HEND.out w').mono ?_
      rintro e w2 ⟨rfl, hb⟩
      exact hK _ _ rfl (Below.trans hG (Below.mono hb hG.size)) (Below.mono hb hG.size)
    · refine StepAt.plain rfl ?_
      intro f w' hG hfr hp Kx hK
      have g8 : f 8 = .pointer (some ⟨K, 0, none⟩) := hfr 8 (by kernel_rfl)
      clear hfr hp
      go_simp
      exact hK _ _ rfl hG (Below.refl _ _)
    · refine StepAt.plain rfl ?_
      intro f w' hG hfr hp Kx hK
      have g321 : f 321 = .pointer (some ⟨K, 1, none⟩) := hp 2 _ 321 rfl rfl (by kernel_rfl)
      clear hfr hp
      have q := (HX4.out.new hG).x1
      try simp only at q
      go_simp
      exact hK _ _ rfl hG (Below.refl _ _)
    · refine StepAt.plain rfl ?_
      intro f w' hG hfr hp Kx hK
      have g320 : f 320 = .int .i64 (E : Int) := hp 1 _ 320 rfl rfl (by kernel_rfl)
      have g322 : f 322 = .int .i64 (bg : Int) := hp 3 _ 322 rfl rfl (by kernel_rfl)
      clear hfr hp
      go_simp
      exact hK _ _ (congrArg Value.bool (by first | exact HC.out.symm | (rw [HC.out]; simp; done))) hG (Below.refl _ _)
  · intro f2 w5 hG hfr hR
    have y0 : f2 0 = .int .i64 (z : Int) := hfr 0 (by kernel_rfl)
    have y5 : f2 5 = .pointer (some ⟨d, 0, none⟩) := hfr 5 (by kernel_rfl)
    have y6 : f2 6 = .pointer (some ⟨b, 0, none⟩) := hfr 6 (by kernel_rfl)
    have y8 : f2 8 = .pointer (some ⟨K, 0, none⟩) := hfr 8 (by kernel_rfl)
    have y1 : f2 1 = f 1 := hfr 1 (by kernel_rfl)
    have y51 : f2 51 = f 51 := hfr 51 (by kernel_rfl)
    have y52 : f2 52 = f 52 := hfr 52 (by kernel_rfl)
    have y53 : f2 53 = f 53 := hfr 53 (by kernel_rfl)
    have y24 : f2 24 = .int .i64 0 := hfr 24 (by kernel_rfl)
    have y323 : f2 323 = .bool c := hR 4 _ 323 rfl rfl
    have HG := Lib.hid hG
    rw [fr_lit380 f2, y0, y5, y6, y8, y1, y51, y52, y53, y24, y323]
    clear hR hG hfr y0 y5 y6 y8 y1 y51 y52 y53 y24 y323
    have HX5 := Lib.hid (HX4.out.new HG.out)
    have hcs : (c = true ∧ bg < E) ∨ (c = false ∧ lf = 0) := by
      have h1 := HC.out
      have h2 := HE.out
      by_cases h : bg < E
      · exact .inl ⟨by rw [h1]; exact decide_eq_true (by omega), h⟩
      · exact .inr ⟨by rw [h1]; exact decide_eq_false (by omega), hlf0 (by omega)⟩
    clear hlf0
    rcases hcs with ⟨rfl, hlt⟩ | ⟨rfl, rfl⟩
    · go_upto_region 64 with fail
      refine region_inv' (n := 380) rfl rfl (by kernel_rfl) (by kernel_rfl) (fun i v _ => match i with | 0 => v = .int .i64 (z : Int) | 1 => v = .pointer (some ⟨K, 1, none⟩) | 2 => v = .int .i64 (bg : Int) | 3 => v = .int .i64 (z : Int) | 4 => v = .int .i64 0 | 5 => v = .int .i64 (z : Int) | 6 => v = .pointer (some ⟨K, 0, none⟩) | 7 => v = .string s | 8 => v = .int .i64 (s.size : Int) | 9 => v = .int .i64 (lf : Int) | 10 => v = .int .i64 (lf : Int) | _ => True)
        (fun w' => Below w5.heap.size w5 w') (fun w' w2 => Below w5.heap.size w' w2) (fun w' => Below.refl _ _) (fun _ _ _ _ _ h => h) (Below.refl _ _).drew ?_ ?_
      · simp only [AllAt]
        refine ⟨?_, ?_, ?_, ?_, ?_, ?_, ?_, ?_, ?_, ?_, ?_, trivial⟩
        · refine StepAt.plain rfl ?_
          intro f w' hG hfr hp Kx hK
          have g0 : f 0 = .int .i64 (z : Int) := hfr 0 (by kernel_rfl)
          clear hfr hp
          go_simp
          exact hK _ _ rfl hG (Below.refl _ _)
        · refine StepAt.plain rfl ?_
          intro f w' hG hfr hp Kx hK
          have g8 : f 8 = .pointer (some ⟨K, 0, none⟩) := hfr 8 (by kernel_rfl)
          clear hfr hp
          go_simp
          exact hK _ _ rfl hG (Below.refl _ _)
        · refine StepAt.plain rfl ?_
          intro f w' hG hfr hp Kx hK
          have g325 : f 325 = .pointer (some ⟨K, 1, none⟩) := hp 1 _ 325 rfl rfl (by kernel_rfl)
          clear hfr hp
          have q := (HX5.out.new hG).x1
          try simp only at q
          go_simp
          exact hK _ _ rfl hG (Below.refl _ _)
        · refine StepAt.plain rfl ?_
          intro f w' hG hfr hp Kx hK
          have g0 : f 0 = .int .i64 (z : Int) := hfr 0 (by kernel_rfl)
          clear hfr hp
          go_simp
          exact hK _ _ rfl hG (Below.refl _ _)
        · refine StepAt.plain rfl ?_
          intro f w' hG hfr hp Kx hK
          have g326 : f 326 = .int .i64 (bg : Int) := hp 2 _ 326 rfl rfl (by kernel_rfl)
          have g327 : f 327 = .int .i64 (z : Int) := hp 3 _ 327 rfl rfl (by kernel_rfl)
          clear hfr hp
          have htm : ((bg : Int)).tmod (z : Int) = (bg : Int) % (z : Int) := Int.tmod_eq_emod_of_nonneg (by omega)
          have hb0 := HB0.out
          go_simp
          exact hK _ _ (by first | rfl | exact congrArg (Value.int .i64) HB0.out) hG (Below.refl _ _)
        · refine StepAt.plain rfl ?_
          intro f w' hG hfr hp Kx hK
          have g324 : f 324 = .int .i64 (z : Int) := hp 0 _ 324 rfl rfl (by kernel_rfl)
          have g328 : f 328 = .int .i64 0 := hp 4 _ 328 rfl rfl (by kernel_rfl)
          clear hfr hp
          have hw : IntKind.i64.wrap ((z : Int) - 0) = (z : Int) := by rw [Int.sub_zero]; exact IntWalk.i64_in _ (by omega)
          have hw2 : IntKind.i64.wrap (z : Int) = (z : Int) := IntWalk.i64_in _ (by omega)
          go_simp
          exact hK _ _ rfl hG (Below.refl _ _)
        · refine StepAt.plain rfl ?_
          intro f w' hG hfr hp Kx hK
          have g8 : f 8 = .pointer (some ⟨K, 0, none⟩) := hfr 8 (by kernel_rfl)
          clear hfr hp
          go_simp
          exact hK _ _ rfl hG (Below.refl _ _)
        · refine StepAt.plain rfl ?_
          intro f w' hG hfr hp Kx hK
          have g330 : f 330 = .pointer (some ⟨K, 0, none⟩) := hp 6 _ 330 rfl rfl (by kernel_rfl)
          clear hfr hp
          have q := (HX5.out.new hG).x0
          try simp only at q
          go_simp
          exact hK _ _ rfl hG (Below.refl _ _)
        · refine StepAt.plain rfl ?_
          intro f w' hG hfr hp Kx hK
          have g331 : f 331 = .string s := hp 7 _ 331 rfl rfl (by kernel_rfl)
          clear hfr hp
          go_simp
          exact hK _ _ rfl hG (Below.refl _ _)
        · refine StepAt.plain rfl ?_
          intro f w' hG hfr hp Kx hK
          have g329 : f 329 = .int .i64 (z : Int) := hp 5 _ 329 rfl rfl (by kernel_rfl)
          have g332 : f 332 = .int .i64 (s.size : Int) := hp 8 _ 332 rfl rfl (by kernel_rfl)
          clear hfr hp
          go_simp
          exact hK _ _ (by first | rfl | exact congrArg (Value.int .i64) HLF.out) hG (Below.refl _ _)
        · refine StepAt.plain rfl ?_
          intro f w' hG hfr hp Kx hK
          have g333 : f 333 = .int .i64 (lf : Int) := hp 9 _ 333 rfl rfl (by kernel_rfl)
          clear hfr hp
          go_simp
          exact hK _ _ rfl hG (Below.refl _ _)
      · intro f3 w6 hG hfr hR
        have y0 : f3 0 = .int .i64 (z : Int) := (hfr 0 (by kernel_rfl))
        have y5 : f3 5 = .pointer (some ⟨d, 0, none⟩) := (hfr 5 (by kernel_rfl))
        have y6 : f3 6 = .pointer (some ⟨b, 0, none⟩) := (hfr 6 (by kernel_rfl))
        have y8 : f3 8 = .pointer (some ⟨K, 0, none⟩) := (hfr 8 (by kernel_rfl))
        have y1 : f3 1 = f 1 := (hfr 1 (by kernel_rfl))
        have y51 : f3 51 = f 51 := (hfr 51 (by kernel_rfl))
        have y52 : f3 52 = f 52 := (hfr 52 (by kernel_rfl))
        have y53 : f3 53 = f 53 := (hfr 53 (by kernel_rfl))
        have y24 : f3 24 = .int .i64 (lf : Int) := hR 10 _ 24 rfl rfl
        have HG6 := Lib.hid hG
        rw [fr_lit380 f3, y0, y5, y6, y8, y1, y51, y52, y53, y24]
        clear hR hG hfr y0 y5 y6 y8 y1 y51 y52 y53 y24
        have HX6 := Lib.hid (HX5.out.new HG6.out)
        go_upto_region 65 with fail
        refine region_inv' (n := 380) rfl rfl (by kernel_rfl) (by kernel_rfl) (fun i v _ => match i with | 0 => v = .pointer (some ⟨b, 0, none⟩) | 1 => v = .int .i64 (bg : Int) | 2 => v = .pointer (some ⟨K, 1, none⟩) | 3 => v = .int .i64 (bg : Int) | 4 => v = .bool false | 5 => v = .bool false | 6 => v = gv (true) (.pointer (some ⟨b, 0, none⟩)) | 7 => v = gv (true) (.int .i64 (E : Int)) | 8 => v = gv (true) (.agg #[.string s, .int .i64 (bg : Int), .int .i64 sy, .bool any]) | 9 => v = gv (true) (.int .i64 (E : Int)) | 10 => v = gv (true) (.bool false) | 11 => v = .bool false | 12 => v = .bool false | 13 => v = gv (true) (.pointer (some ⟨b, 0, none⟩)) | 14 => v = gv (true) (.int .i64 sy) | 15 => v = gv (true) (.pointer (some ⟨K, 2, none⟩)) | 16 => v = gv (true) (.int .i64 sy) | 17 => v = gv (true) (.bool false) | 18 => v = .bool false | 19 => v = .bool false | 20 => v = gv (true) (.pointer (some ⟨b, 0, none⟩)) | 21 => v = gv (true) (.int .i64 ((z : Int) - (R : Int))) | 22 => v = gv (true) (.int .i64 (z : Int)) | 23 => v = gv (true) (.agg #[.string s, .int .i64 (bg : Int), .int .i64 sy, .bool any]) | 24 => v = gv (true) (.int .i64 (E : Int)) | 25 => v = gv (true) (.int .i64 (z : Int)) | 26 => v = gv (true) (.int .i64 (R : Int)) | 27 => v = gv (true) (.int .i64 ((z : Int) - (R : Int))) | 28 => v = gv (true) (.bool false) | 29 => v = .bool false | 30 => v = .bool false | 31 => v = gv (true) (.pointer (some ⟨b, 0, none⟩)) | 32 => v = gv (true) (.pointer (some ⟨K, 1, none⟩)) | 33 => v = gv (true) (.int .i64 (bg : Int)) | 34 => v = gv (true) (.int .i64 (lf : Int)) | 35 => v = gv (true) (.int .i64 (lf : Int)) | 36 => v = gv (true) (.bool false) | 37 => v = .bool false | 38 => v = .bool false | 39 => v = gv (true) (.pointer (some ⟨d, 0, none⟩)) | 40 => v = gv (true) (.int .i64 (z : Int)) | 41 => v = gv (true) (.agg #[.string s, .int .i64 (bg : Int), .int .i64 sy, .bool any]) | 42 => v = gv (true) (.bool true) | 43 => v = gv (true) (.bool false) | 44 => v = .bool false | _ => True)
          (fun w' => Below w6.heap.size w6 w') (fun w' w2 => Below w6.heap.size w' w2) (fun w' => Below.refl _ _) (fun _ _ _ _ _ h => h) (Below.refl _ _).drew ?_ ?_
        · simp only [AllAt]
          refine ⟨?_, ?_, ?_, ?_, ?_, ?_, ?_, ?_, ?_, ?_, ?_, ?_, ?_, ?_, ?_, ?_, ?_, ?_, ?_, ?_, ?_, ?_, ?_, ?_, ?_, ?_, ?_, ?_, ?_, ?_, ?_, ?_, ?_, ?_, ?_, ?_, ?_, ?_, ?_, ?_, ?_, ?_, ?_, ?_, ?_, trivial⟩
          · refine StepAt.plain rfl ?_
            intro f w' hG hfr hp Kx hK
            have g6 : f 6 = .pointer (some ⟨b, 0, none⟩) := hfr 6 (by kernel_rfl)
            clear hfr hp
            go_simp
            exact hK _ _ rfl hG (Below.refl _ _)
          · refine StepAt.plain rfl ?_
            intro f w' hG hfr hp Kx hK
            have g334 : f 334 = .pointer (some ⟨b, 0, none⟩) := hp 0 _ 334 rfl rfl (by kernel_rfl)
            clear hfr hp
            go_simp
            refine (HPB.out w' (Below.trans HG.out (Below.trans (Below.mono HG6.out HG.out.size) (Below.mono hG (Nat.le_trans HG.out.size HG6.out.size))))).mono ?_
            rintro e w2 ⟨rfl, hb⟩
            exact hK _ _ rfl (Below.trans hG (Below.mono hb hG.size)) (Below.mono hb hG.size)
          · refine StepAt.plain rfl ?_
            intro f w' hG hfr hp Kx hK
            have g8 : f 8 = .pointer (some ⟨K, 0, none⟩) := hfr 8 (by kernel_rfl)
            clear hfr hp
            go_simp
            exact hK _ _ rfl hG (Below.refl _ _)
          · refine StepAt.plain rfl ?_
            intro f w' hG hfr hp Kx hK
            have g336 : f 336 = .pointer (some ⟨K, 1, none⟩) := hp 2 _ 336 rfl rfl (by kernel_rfl)
            clear hfr hp
            have q := (HX6.out.new hG).x1
            try simp only at q
            go_simp
            exact hK _ _ rfl hG (Below.refl _ _)
          · refine StepAt.plain rfl ?_
            intro f w' hG hfr hp Kx hK
            have g335 : f 335 = .int .i64 (bg : Int) := hp 1 _ 335 rfl rfl (by kernel_rfl)
            have g337 : f 337 = .int .i64 (bg : Int) := hp 3 _ 337 rfl rfl (by kernel_rfl)
            clear hfr hp
            go_simp
            exact hK _ _ (by first | rfl | simp) hG (Below.refl _ _)
          · refine StepAt.plain rfl ?_
            intro f w' hG hfr hp Kx hK
            have g338 : f 338 = .bool false := hp 4 _ 338 rfl rfl (by kernel_rfl)
            clear hfr hp
            go_simp
            exact hK _ _ rfl hG (Below.refl _ _)
          · refine StepAt.guarded 5 339 false _ rfl rfl rfl (by decide) (by kernel_rfl) (true) (by intro w v h; (have h : v = .bool false := h); rw [h]; (simp [gv, undef])) (by intro h w; show undef = gv (true) _; rw [h]; rfl) ?_
            intro hc f w' hG hfr hp Kx hK
            have g6 : f 6 = .pointer (some ⟨b, 0, none⟩) := hfr 6 (by kernel_rfl)
            clear hfr hp
            clear hc
            go_simp
            exact hK _ _ rfl hG (Below.refl _ _)
          · refine StepAt.guarded 5 339 false _ rfl rfl rfl (by decide) (by kernel_rfl) (true) (by intro w v h; (have h : v = .bool false := h); rw [h]; (simp [gv, undef])) (by intro h w; show undef = gv (true) _; rw [h]; rfl) ?_
            intro hc f w' hG hfr hp Kx hK
            have g340 : f 340 = gv (true) (.pointer (some ⟨b, 0, none⟩)) := hp 6 _ 340 rfl rfl (by kernel_rfl)
            clear hfr hp
            clear hc
            simp only [gv_true, gv_false, Bool.not_false, Bool.not_true, Bool.and_true, Bool.true_and] at g340
            go_simp
            refine (HPE.out w' (Below.trans HG.out (Below.trans (Below.mono HG6.out HG.out.size) (Below.mono hG (Nat.le_trans HG.out.size HG6.out.size))))).mono ?_
            rintro e w2 ⟨rfl, hb⟩
            exact hK _ _ rfl (Below.trans hG (Below.mono hb hG.size)) (Below.mono hb hG.size)
          · refine StepAt.guarded 5 339 false _ rfl rfl rfl (by decide) (by kernel_rfl) (true) (by intro w v h; (have h : v = .bool false := h); rw [h]; (simp [gv, undef])) (by intro h w; show undef = gv (true) _; rw [h]; rfl) ?_
            intro hc f w' hG hfr hp Kx hK
            have g8 : f 8 = .pointer (some ⟨K, 0, none⟩) := hfr 8 (by kernel_rfl)
            clear hfr hp
            clear hc
            obtain ⟨q0, q1, q2, q3, q4, q5, q6, q7, q8⟩ := HX6.out.new hG
            clear q4 q5 q6 q7 q8
            go_simp
            exact hK _ _ rfl hG (Below.refl _ _)
          · refine StepAt.guarded 5 339 false _ rfl rfl rfl (by decide) (by kernel_rfl) (true) (by intro w v h; (have h : v = .bool false := h); rw [h]; (simp [gv, undef])) (by intro h w; show undef = gv (true) _; rw [h]; rfl) ?_
            intro hc f w' hG hfr hp Kx hK
            have g342 : f 342 = gv (true) (.agg #[.string s, .int .i64 (bg : Int), .int .i64 sy, .bool any]) := hp 8 _ 342 rfl rfl (by kernel_rfl)
            clear hfr hp
            clear hc
            simp only [gv_true, gv_false, Bool.not_false, Bool.not_true, Bool.and_true, Bool.true_and] at g342
            go_simp
            refine (HEND.out w').mono ?_
            rintro e w2 ⟨rfl, hb⟩
            exact hK _ _ rfl (Below.trans hG (Below.mono hb hG.size)) (Below.mono hb hG.size)
          · refine StepAt.guarded 5 339 false _ rfl rfl rfl (by decide) (by kernel_rfl) (true) (by intro w v h; (have h : v = .bool false := h); rw [h]; (simp [gv, undef])) (by intro h w; show undef = gv (true) _; rw [h]; rfl) ?_
            intro hc f w' hG hfr hp Kx hK
            have g341 : f 341 = gv (true) (.int .i64 (E : Int)) := hp 7 _ 341 rfl rfl (by kernel_rfl)
            have g343 : f 343 = gv (true) (.int .i64 (E : Int)) := hp 9 _ 343 rfl rfl (by kernel_rfl)
            clear hfr hp
            clear hc
            simp only [gv_true, gv_false, Bool.not_false, Bool.not_true, Bool.and_true, Bool.true_and] at g341 g343
            go_simp
            exact hK _ _ (by first | rfl | simp) hG (Below.refl _ _)
          · refine StepAt.plain rfl ?_
            intro f w' hG hfr hp Kx hK
            have g339 : f 339 = .bool false := hp 5 _ 339 rfl rfl (by kernel_rfl)
            have g344 : f 344 = gv (true) (.bool false) := hp 10 _ 344 rfl rfl (by kernel_rfl)
            clear hfr hp
            go_simp
            exact hK _ _ rfl hG (Below.refl _ _)
          · refine StepAt.plain rfl ?_
            intro f w' hG hfr hp Kx hK
            have g345 : f 345 = .bool false := hp 11 _ 345 rfl rfl (by kernel_rfl)
            clear hfr hp
            go_simp
            exact hK _ _ rfl hG (Below.refl _ _)
          · refine StepAt.guarded 12 346 false _ rfl rfl rfl (by decide) (by kernel_rfl) (true) (by intro w v h; (have h : v = .bool false := h); rw [h]; (simp [gv, undef])) (by intro h w; show undef = gv (true) _; rw [h]; rfl) ?_
            intro hc f w' hG hfr hp Kx hK
            have g6 : f 6 = .pointer (some ⟨b, 0, none⟩) := hfr 6 (by kernel_rfl)
            clear hfr hp
            clear hc
            go_simp
            exact hK _ _ rfl hG (Below.refl _ _)
          · refine StepAt.guarded 12 346 false _ rfl rfl rfl (by decide) (by kernel_rfl) (true) (by intro w v h; (have h : v = .bool false := h); rw [h]; (simp [gv, undef])) (by intro h w; show undef = gv (true) _; rw [h]; rfl) ?_
            intro hc f w' hG hfr hp Kx hK
            have g347 : f 347 = gv (true) (.pointer (some ⟨b, 0, none⟩)) := hp 13 _ 347 rfl rfl (by kernel_rfl)
            clear hfr hp
            clear hc
            simp only [gv_true, gv_false, Bool.not_false, Bool.not_true, Bool.and_true, Bool.true_and] at g347
            go_simp
            refine (HPS.out w' (Below.trans HG.out (Below.trans (Below.mono HG6.out HG.out.size) (Below.mono hG (Nat.le_trans HG.out.size HG6.out.size))))).mono ?_
            rintro e w2 ⟨rfl, hb⟩
            exact hK _ _ rfl (Below.trans hG (Below.mono hb hG.size)) (Below.mono hb hG.size)
          · refine StepAt.guarded 12 346 false _ rfl rfl rfl (by decide) (by kernel_rfl) (true) (by intro w v h; (have h : v = .bool false := h); rw [h]; (simp [gv, undef])) (by intro h w; show undef = gv (true) _; rw [h]; rfl) ?_
            intro hc f w' hG hfr hp Kx hK
            have g8 : f 8 = .pointer (some ⟨K, 0, none⟩) := hfr 8 (by kernel_rfl)
            clear hfr hp
            clear hc
            go_simp
            exact hK _ _ rfl hG (Below.refl _ _)
          · refine StepAt.guarded 12 346 false _ rfl rfl rfl (by decide) (by kernel_rfl) (true) (by intro w v h; (have h : v = .bool false := h); rw [h]; (simp [gv, undef])) (by intro h w; show undef = gv (true) _; rw [h]; rfl) ?_
            intro hc f w' hG hfr hp Kx hK
            have g349 : f 349 = gv (true) (.pointer (some ⟨K, 2, none⟩)) := hp 15 _ 349 rfl rfl (by kernel_rfl)
            clear hfr hp
            clear hc
            simp only [gv_true, gv_false, Bool.not_false, Bool.not_true, Bool.and_true, Bool.true_and] at g349
            have q := (HX6.out.new hG).x2
            try simp only at q
            go_simp
            exact hK _ _ rfl hG (Below.refl _ _)
          · refine StepAt.guarded 12 346 false _ rfl rfl rfl (by decide) (by kernel_rfl) (true) (by intro w v h; (have h : v = .bool false := h); rw [h]; (simp [gv, undef])) (by intro h w; show undef = gv (true) _; rw [h]; rfl) ?_
            intro hc f w' hG hfr hp Kx hK
            have g348 : f 348 = gv (true) (.int .i64 sy) := hp 14 _ 348 rfl rfl (by kernel_rfl)
            have g350 : f 350 = gv (true) (.int .i64 sy) := hp 16 _ 350 rfl rfl (by kernel_rfl)
            clear hfr hp
            clear hc
            simp only [gv_true, gv_false, Bool.not_false, Bool.not_true, Bool.and_true, Bool.true_and] at g348 g350
            go_simp
            exact hK _ _ (by first | rfl | simp) hG (Below.refl _ _)
          · refine StepAt.plain rfl ?_
            intro f w' hG hfr hp Kx hK
            have g346 : f 346 = .bool false := hp 12 _ 346 rfl rfl (by kernel_rfl)
            have g351 : f 351 = gv (true) (.bool false) := hp 17 _ 351 rfl rfl (by kernel_rfl)
            clear hfr hp
            go_simp
            exact hK _ _ rfl hG (Below.refl _ _)
          · refine StepAt.plain rfl ?_
            intro f w' hG hfr hp Kx hK
            have g352 : f 352 = .bool false := hp 18 _ 352 rfl rfl (by kernel_rfl)
            clear hfr hp
            go_simp
            exact hK _ _ rfl hG (Below.refl _ _)
          · refine StepAt.guarded 19 353 false _ rfl rfl rfl (by decide) (by kernel_rfl) (true) (by intro w v h; (have h : v = .bool false := h); rw [h]; (simp [gv, undef])) (by intro h w; show undef = gv (true) _; rw [h]; rfl) ?_
            intro hc f w' hG hfr hp Kx hK
            have g6 : f 6 = .pointer (some ⟨b, 0, none⟩) := hfr 6 (by kernel_rfl)
            clear hfr hp
            clear hc
            go_simp
            exact hK _ _ rfl hG (Below.refl _ _)
          · refine StepAt.guarded 19 353 false _ rfl rfl rfl (by decide) (by kernel_rfl) (true) (by intro w v h; (have h : v = .bool false := h); rw [h]; (simp [gv, undef])) (by intro h w; show undef = gv (true) _; rw [h]; rfl) ?_
            intro hc f w' hG hfr hp Kx hK
            have g354 : f 354 = gv (true) (.pointer (some ⟨b, 0, none⟩)) := hp 20 _ 354 rfl rfl (by kernel_rfl)
            clear hfr hp
            clear hc
            simp only [gv_true, gv_false, Bool.not_false, Bool.not_true, Bool.and_true, Bool.true_and] at g354
            go_simp
            refine (HPR.out w' (Below.trans HG.out (Below.trans (Below.mono HG6.out HG.out.size) (Below.mono hG (Nat.le_trans HG.out.size HG6.out.size))))).mono ?_
            rintro e w2 ⟨rfl, hb⟩
            exact hK _ _ rfl (Below.trans hG (Below.mono hb hG.size)) (Below.mono hb hG.size)
          · refine StepAt.guarded 19 353 false _ rfl rfl rfl (by decide) (by kernel_rfl) (true) (by intro w v h; (have h : v = .bool false := h); rw [h]; (simp [gv, undef])) (by intro h w; show undef = gv (true) _; rw [h]; rfl) ?_
            intro hc f w' hG hfr hp Kx hK
            have g0 : f 0 = .int .i64 (z : Int) := hfr 0 (by kernel_rfl)
            clear hfr hp
            clear hc
            go_simp
            exact hK _ _ rfl hG (Below.refl _ _)
          · refine StepAt.guarded 19 353 false _ rfl rfl rfl (by decide) (by kernel_rfl) (true) (by intro w v h; (have h : v = .bool false := h); rw [h]; (simp [gv, undef])) (by intro h w; show undef = gv (true) _; rw [h]; rfl) ?_
            intro hc f w' hG hfr hp Kx hK
            have g8 : f 8 = .pointer (some ⟨K, 0, none⟩) := hfr 8 (by kernel_rfl)
            clear hfr hp
            clear hc
            obtain ⟨q0, q1, q2, q3, q4, q5, q6, q7, q8⟩ := HX6.out.new hG
            clear q4 q5 q6 q7 q8
            go_simp
            exact hK _ _ rfl hG (Below.refl _ _)
          · refine StepAt.guarded 19 353 false _ rfl rfl rfl (by decide) (by kernel_rfl) (true) (by intro w v h; (have h : v = .bool false := h); rw [h]; (simp [gv, undef])) (by intro h w; show undef = gv (true) _; rw [h]; rfl) ?_
            intro hc f w' hG hfr hp Kx hK
            have g357 : f 357 = gv (true) (.agg #[.string s, .int .i64 (bg : Int), .int .i64 sy, .bool any]) := hp 23 _ 357 rfl rfl (by kernel_rfl)
            clear hfr hp
            clear hc
            simp only [gv_true, gv_false, Bool.not_false, Bool.not_true, Bool.and_true, Bool.true_and] at g357
            go_simp
            refine (HEND.out w').mono ?_
            rintro e w2 ⟨rfl, hb⟩
            exact hK _ _ rfl (Below.trans hG (Below.mono hb hG.size)) (Below.mono hb hG.size)
          · refine StepAt.guarded 19 353 false _ rfl rfl rfl (by decide) (by kernel_rfl) (true) (by intro w v h; (have h : v = .bool false := h); rw [h]; (simp [gv, undef])) (by intro h w; show undef = gv (true) _; rw [h]; rfl) ?_
            intro hc f w' hG hfr hp Kx hK
            have g0 : f 0 = .int .i64 (z : Int) := hfr 0 (by kernel_rfl)
            clear hfr hp
            clear hc
            go_simp
            exact hK _ _ rfl hG (Below.refl _ _)
          · refine StepAt.guarded 19 353 false _ rfl rfl rfl (by decide) (by kernel_rfl) (true) (by intro w v h; (have h : v = .bool false := h); rw [h]; (simp [gv, undef])) (by intro h w; show undef = gv (true) _; rw [h]; rfl) ?_
            intro hc f w' hG hfr hp Kx hK
            have g358 : f 358 = gv (true) (.int .i64 (E : Int)) := hp 24 _ 358 rfl rfl (by kernel_rfl)
            have g359 : f 359 = gv (true) (.int .i64 (z : Int)) := hp 25 _ 359 rfl rfl (by kernel_rfl)
            clear hfr hp
            clear hc
            simp only [gv_true, gv_false, Bool.not_false, Bool.not_true, Bool.and_true, Bool.true_and] at g358 g359
            have htm : ((E : Int)).tmod (z : Int) = (E : Int) % (z : Int) := Int.tmod_eq_emod_of_nonneg (by omega)
            have hri := HRI.out
            go_simp
            exact hK _ _ (by first | rfl | exact congrArg (Value.int .i64) HRI.out) hG (Below.refl _ _)
          · refine StepAt.guarded 19 353 false _ rfl rfl rfl (by decide) (by kernel_rfl) (true) (by intro w v h; (have h : v = .bool false := h); rw [h]; (simp [gv, undef])) (by intro h w; show undef = gv (true) _; rw [h]; rfl) ?_
            intro hc f w' hG hfr hp Kx hK
            have g356 : f 356 = gv (true) (.int .i64 (z : Int)) := hp 22 _ 356 rfl rfl (by kernel_rfl)
            have g360 : f 360 = gv (true) (.int .i64 (R : Int)) := hp 26 _ 360 rfl rfl (by kernel_rfl)
            clear hfr hp
            clear hc
            simp only [gv_true, gv_false, Bool.not_false, Bool.not_true, Bool.and_true, Bool.true_and] at g356 g360
            have hw : IntKind.i64.wrap ((z : Int) - (R : Int)) = (z : Int) - (R : Int) := IntWalk.i64_in _ (by omega)
            go_simp
            exact hK _ _ rfl hG (Below.refl _ _)
          · refine StepAt.guarded 19 353 false _ rfl rfl rfl (by decide) (by kernel_rfl) (true) (by intro w v h; (have h : v = .bool false := h); rw [h]; (simp [gv, undef])) (by intro h w; show undef = gv (true) _; rw [h]; rfl) ?_
            intro hc f w' hG hfr hp Kx hK
            have g355 : f 355 = gv (true) (.int .i64 ((z : Int) - (R : Int))) := hp 21 _ 355 rfl rfl (by kernel_rfl)
            have g361 : f 361 = gv (true) (.int .i64 ((z : Int) - (R : Int))) := hp 27 _ 361 rfl rfl (by kernel_rfl)
            clear hfr hp
            clear hc
            simp only [gv_true, gv_false, Bool.not_false, Bool.not_true, Bool.and_true, Bool.true_and] at g355 g361
            go_simp
            exact hK _ _ (by first | rfl | simp) hG (Below.refl _ _)
          · refine StepAt.plain rfl ?_
            intro f w' hG hfr hp Kx hK
            have g353 : f 353 = .bool false := hp 19 _ 353 rfl rfl (by kernel_rfl)
            have g362 : f 362 = gv (true) (.bool false) := hp 28 _ 362 rfl rfl (by kernel_rfl)
            clear hfr hp
            go_simp
            exact hK _ _ rfl hG (Below.refl _ _)
          · refine StepAt.plain rfl ?_
            intro f w' hG hfr hp Kx hK
            have g363 : f 363 = .bool false := hp 29 _ 363 rfl rfl (by kernel_rfl)
            clear hfr hp
            go_simp
            exact hK _ _ rfl hG (Below.refl _ _)
          · refine StepAt.guarded 30 364 false _ rfl rfl rfl (by decide) (by kernel_rfl) (true) (by intro w v h; (have h : v = .bool false := h); rw [h]; (simp [gv, undef])) (by intro h w; show undef = gv (true) _; rw [h]; rfl) ?_
            intro hc f w' hG hfr hp Kx hK
            have g6 : f 6 = .pointer (some ⟨b, 0, none⟩) := hfr 6 (by kernel_rfl)
            clear hfr hp
            clear hc
            go_simp
            exact hK _ _ rfl hG (Below.refl _ _)
          · refine StepAt.guarded 30 364 false _ rfl rfl rfl (by decide) (by kernel_rfl) (true) (by intro w v h; (have h : v = .bool false := h); rw [h]; (simp [gv, undef])) (by intro h w; show undef = gv (true) _; rw [h]; rfl) ?_
            intro hc f w' hG hfr hp Kx hK
            have g8 : f 8 = .pointer (some ⟨K, 0, none⟩) := hfr 8 (by kernel_rfl)
            clear hfr hp
            clear hc
            go_simp
            exact hK _ _ rfl hG (Below.refl _ _)
          · refine StepAt.guarded 30 364 false _ rfl rfl rfl (by decide) (by kernel_rfl) (true) (by intro w v h; (have h : v = .bool false := h); rw [h]; (simp [gv, undef])) (by intro h w; show undef = gv (true) _; rw [h]; rfl) ?_
            intro hc f w' hG hfr hp Kx hK
            have g366 : f 366 = gv (true) (.pointer (some ⟨K, 1, none⟩)) := hp 32 _ 366 rfl rfl (by kernel_rfl)
            clear hfr hp
            clear hc
            simp only [gv_true, gv_false, Bool.not_false, Bool.not_true, Bool.and_true, Bool.true_and] at g366
            have q := (HX6.out.new hG).x1
            try simp only at q
            go_simp
            exact hK _ _ rfl hG (Below.refl _ _)
          · refine StepAt.guarded 30 364 false _ rfl rfl rfl (by decide) (by kernel_rfl) (true) (by intro w v h; (have h : v = .bool false := h); rw [h]; (simp [gv, undef])) (by intro h w; show undef = gv (true) _; rw [h]; rfl) ?_
            intro hc f w' hG hfr hp Kx hK
            have g365 : f 365 = gv (true) (.pointer (some ⟨b, 0, none⟩)) := hp 31 _ 365 rfl rfl (by kernel_rfl)
            have g367 : f 367 = gv (true) (.int .i64 (bg : Int)) := hp 33 _ 367 rfl rfl (by kernel_rfl)
            clear hfr hp
            clear hc
            simp only [gv_true, gv_false, Bool.not_false, Bool.not_true, Bool.and_true, Bool.true_and] at g365 g367
            go_simp
            refine (HPL.out w' (Below.trans HG.out (Below.trans (Below.mono HG6.out HG.out.size) (Below.mono hG (Nat.le_trans HG.out.size HG6.out.size))))).mono ?_
            rintro e w2 ⟨rfl, hb⟩
            exact hK _ _ rfl (Below.trans hG (Below.mono hb hG.size)) (Below.mono hb hG.size)
          · refine StepAt.guarded 30 364 false _ rfl rfl rfl (by decide) (by kernel_rfl) (true) (by intro w v h; (have h : v = .bool false := h); rw [h]; (simp [gv, undef])) (by intro h w; show undef = gv (true) _; rw [h]; rfl) ?_
            intro hc f w' hG hfr hp Kx hK
            have g24 : f 24 = .int .i64 (lf : Int) := hfr 24 (by kernel_rfl)
            clear hfr hp
            clear hc
            go_simp
            exact hK _ _ rfl hG (Below.refl _ _)
          · refine StepAt.guarded 30 364 false _ rfl rfl rfl (by decide) (by kernel_rfl) (true) (by intro w v h; (have h : v = .bool false := h); rw [h]; (simp [gv, undef])) (by intro h w; show undef = gv (true) _; rw [h]; rfl) ?_
            intro hc f w' hG hfr hp Kx hK
            have g368 : f 368 = gv (true) (.int .i64 (lf : Int)) := hp 34 _ 368 rfl rfl (by kernel_rfl)
            have g369 : f 369 = gv (true) (.int .i64 (lf : Int)) := hp 35 _ 369 rfl rfl (by kernel_rfl)
            clear hfr hp
            clear hc
            simp only [gv_true, gv_false, Bool.not_false, Bool.not_true, Bool.and_true, Bool.true_and] at g368 g369
            go_simp
            exact hK _ _ (by first | rfl | simp) hG (Below.refl _ _)
          · refine StepAt.plain rfl ?_
            intro f w' hG hfr hp Kx hK
            have g364 : f 364 = .bool false := hp 30 _ 364 rfl rfl (by kernel_rfl)
            have g370 : f 370 = gv (true) (.bool false) := hp 36 _ 370 rfl rfl (by kernel_rfl)
            clear hfr hp
            go_simp
            exact hK _ _ rfl hG (Below.refl _ _)
          · refine StepAt.plain rfl ?_
            intro f w' hG hfr hp Kx hK
            have g371 : f 371 = .bool false := hp 37 _ 371 rfl rfl (by kernel_rfl)
            clear hfr hp
            go_simp
            exact hK _ _ rfl hG (Below.refl _ _)
          · refine StepAt.guarded 38 372 false _ rfl rfl rfl (by decide) (by kernel_rfl) (true) (by intro w v h; (have h : v = .bool false := h); rw [h]; (simp [gv, undef])) (by intro h w; show undef = gv (true) _; rw [h]; rfl) ?_
            intro hc f w' hG hfr hp Kx hK
            have g5 : f 5 = .pointer (some ⟨d, 0, none⟩) := hfr 5 (by kernel_rfl)
            clear hfr hp
            clear hc
            go_simp
            exact hK _ _ rfl hG (Below.refl _ _)
          · refine StepAt.guarded 38 372 false _ rfl rfl rfl (by decide) (by kernel_rfl) (true) (by intro w v h; (have h : v = .bool false := h); rw [h]; (simp [gv, undef])) (by intro h w; show undef = gv (true) _; rw [h]; rfl) ?_
            intro hc f w' hG hfr hp Kx hK
            have g0 : f 0 = .int .i64 (z : Int) := hfr 0 (by kernel_rfl)
            clear hfr hp
            clear hc
            go_simp
            exact hK _ _ rfl hG (Below.refl _ _)
          · refine StepAt.guarded 38 372 false _ rfl rfl rfl (by decide) (by kernel_rfl) (true) (by intro w v h; (have h : v = .bool false := h); rw [h]; (simp [gv, undef])) (by intro h w; show undef = gv (true) _; rw [h]; rfl) ?_
            intro hc f w' hG hfr hp Kx hK
            have g8 : f 8 = .pointer (some ⟨K, 0, none⟩) := hfr 8 (by kernel_rfl)
            clear hfr hp
            clear hc
            obtain ⟨q0, q1, q2, q3, q4, q5, q6, q7, q8⟩ := HX6.out.new hG
            clear q4 q5 q6 q7 q8
            go_simp
            exact hK _ _ rfl hG (Below.refl _ _)
          · refine StepAt.guarded 38 372 false _ rfl rfl rfl (by decide) (by kernel_rfl) (true) (by intro w v h; (have h : v = .bool false := h); rw [h]; (simp [gv, undef])) (by intro h w; show undef = gv (true) _; rw [h]; rfl) ?_
            intro hc f w' hG hfr hp Kx hK
            have g373 : f 373 = gv (true) (.pointer (some ⟨d, 0, none⟩)) := hp 39 _ 373 rfl rfl (by kernel_rfl)
            have g374 : f 374 = gv (true) (.int .i64 (z : Int)) := hp 40 _ 374 rfl rfl (by kernel_rfl)
            have g375 : f 375 = gv (true) (.agg #[.string s, .int .i64 (bg : Int), .int .i64 sy, .bool any]) := hp 41 _ 375 rfl rfl (by kernel_rfl)
            clear hfr hp
            clear hc
            simp only [gv_true, gv_false, Bool.not_false, Bool.not_true, Bool.and_true, Bool.true_and] at g373 g374 g375
            go_simp
            refine (HPF.out w' (Below.trans HG.out (Below.trans (Below.mono HG6.out HG.out.size) (Below.mono hG (Nat.le_trans HG.out.size HG6.out.size))))).mono ?_
            rintro e w2 ⟨rfl, hb⟩
            exact hK _ _ rfl (Below.trans hG (Below.mono hb hG.size)) (Below.mono hb hG.size)
          · refine StepAt.guarded 38 372 false _ rfl rfl rfl (by decide) (by kernel_rfl) (true) (by intro w v h; (have h : v = .bool false := h); rw [h]; (simp [gv, undef])) (by intro h w; show undef = gv (true) _; rw [h]; rfl) ?_
            intro hc f w' hG hfr hp Kx hK
            have g376 : f 376 = gv (true) (.bool true) := hp 42 _ 376 rfl rfl (by kernel_rfl)
            clear hfr hp
            clear hc
            simp only [gv_true, gv_false, Bool.not_false, Bool.not_true, Bool.and_true, Bool.true_and] at g376
            go_simp
            exact hK _ _ (by first | rfl | simp) hG (Below.refl _ _)
          · refine StepAt.plain rfl ?_
            intro f w' hG hfr hp Kx hK
            have g372 : f 372 = .bool false := hp 38 _ 372 rfl rfl (by kernel_rfl)
            have g377 : f 377 = gv (true) (.bool false) := hp 43 _ 377 rfl rfl (by kernel_rfl)
            clear hfr hp
            go_simp
            exact hK _ _ rfl hG (Below.refl _ _)
        · intro f4 w7 hG hfr hR
          have y0 : f4 0 = .int .i64 (z : Int) := (hfr 0 (by kernel_rfl))
          have y5 : f4 5 = .pointer (some ⟨d, 0, none⟩) := (hfr 5 (by kernel_rfl))
          have y6 : f4 6 = .pointer (some ⟨b, 0, none⟩) := (hfr 6 (by kernel_rfl))
          have y8 : f4 8 = .pointer (some ⟨K, 0, none⟩) := (hfr 8 (by kernel_rfl))
          have y1 : f4 1 = f 1 := (hfr 1 (by kernel_rfl))
          have y51 : f4 51 = f 51 := (hfr 51 (by kernel_rfl))
          have y52 : f4 52 = f 52 := (hfr 52 (by kernel_rfl))
          have y53 : f4 53 = f 53 := (hfr 53 (by kernel_rfl))
          have y378 : f4 378 = .bool false := hR 44 _ 378 rfl rfl
          have HG7 := Lib.hid hG
          rw [fr_lit380 f4, y0, y5, y6, y8, y1, y51, y52, y53, y378]
          clear hR hG hfr y0 y5 y6 y8 y1 y51 y52 y53 y378
          go_wp2_with fail
          refine HQ.out _ _ ⟨_, lit_fr380 _ rfl, f0.symm, rfl, f5.symm, f6.symm, f8.symm, rfl, rfl, rfl, HP4.out.new (Chg.of_below ?_)⟩
          exact Below.trans HG.out (Below.trans (Below.mono HG6.out HG.out.size) (Below.mono HG7.out (Nat.le_trans HG.out.size HG6.out.size)))
    · go_upto_region 65 with fail
      refine region_inv' (n := 380) rfl rfl (by kernel_rfl) (by kernel_rfl) (fun i v _ => match i with | 0 => v = .pointer (some ⟨b, 0, none⟩) | 1 => v = .int .i64 (bg : Int) | 2 => v = .pointer (some ⟨K, 1, none⟩) | 3 => v = .int .i64 (bg : Int) | 4 => v = .bool false | 5 => v = .bool false | 6 => v = gv (true) (.pointer (some ⟨b, 0, none⟩)) | 7 => v = gv (true) (.int .i64 (E : Int)) | 8 => v = gv (true) (.agg #[.string s, .int .i64 (bg : Int), .int .i64 sy, .bool any]) | 9 => v = gv (true) (.int .i64 (E : Int)) | 10 => v = gv (true) (.bool false) | 11 => v = .bool false | 12 => v = .bool false | 13 => v = gv (true) (.pointer (some ⟨b, 0, none⟩)) | 14 => v = gv (true) (.int .i64 sy) | 15 => v = gv (true) (.pointer (some ⟨K, 2, none⟩)) | 16 => v = gv (true) (.int .i64 sy) | 17 => v = gv (true) (.bool false) | 18 => v = .bool false | 19 => v = .bool false | 20 => v = gv (true) (.pointer (some ⟨b, 0, none⟩)) | 21 => v = gv (true) (.int .i64 ((z : Int) - (R : Int))) | 22 => v = gv (true) (.int .i64 (z : Int)) | 23 => v = gv (true) (.agg #[.string s, .int .i64 (bg : Int), .int .i64 sy, .bool any]) | 24 => v = gv (true) (.int .i64 (E : Int)) | 25 => v = gv (true) (.int .i64 (z : Int)) | 26 => v = gv (true) (.int .i64 (R : Int)) | 27 => v = gv (true) (.int .i64 ((z : Int) - (R : Int))) | 28 => v = gv (true) (.bool false) | 29 => v = .bool false | 30 => v = .bool false | 31 => v = gv (true) (.pointer (some ⟨b, 0, none⟩)) | 32 => v = gv (true) (.pointer (some ⟨K, 1, none⟩)) | 33 => v = gv (true) (.int .i64 (bg : Int)) | 34 => v = gv (true) (.int .i64 0) | 35 => v = gv (true) (.int .i64 0) | 36 => v = gv (true) (.bool false) | 37 => v = .bool false | 38 => v = .bool false | 39 => v = gv (true) (.pointer (some ⟨d, 0, none⟩)) | 40 => v = gv (true) (.int .i64 (z : Int)) | 41 => v = gv (true) (.agg #[.string s, .int .i64 (bg : Int), .int .i64 sy, .bool any]) | 42 => v = gv (true) (.bool true) | 43 => v = gv (true) (.bool false) | 44 => v = .bool false | _ => True)
        (fun w' => Below w5.heap.size w5 w') (fun w' w2 => Below w5.heap.size w' w2) (fun w' => Below.refl _ _) (fun _ _ _ _ _ h => h) (Below.refl _ _).drew ?_ ?_
      · simp only [AllAt]
        refine ⟨?_, ?_, ?_, ?_, ?_, ?_, ?_, ?_, ?_, ?_, ?_, ?_, ?_, ?_, ?_, ?_, ?_, ?_, ?_, ?_, ?_, ?_, ?_, ?_, ?_, ?_, ?_, ?_, ?_, ?_, ?_, ?_, ?_, ?_, ?_, ?_, ?_, ?_, ?_, ?_, ?_, ?_, ?_, ?_, ?_, trivial⟩
        · refine StepAt.plain rfl ?_
          intro f w' hG hfr hp Kx hK
          have g6 : f 6 = .pointer (some ⟨b, 0, none⟩) := hfr 6 (by kernel_rfl)
          clear hfr hp
          go_simp
          exact hK _ _ rfl hG (Below.refl _ _)
        · refine StepAt.plain rfl ?_
          intro f w' hG hfr hp Kx hK
          have g334 : f 334 = .pointer (some ⟨b, 0, none⟩) := hp 0 _ 334 rfl rfl (by kernel_rfl)
          clear hfr hp
          go_simp
          refine (HPB.out w' (Below.trans HG.out (Below.mono hG HG.out.size))).mono ?_
          rintro e w2 ⟨rfl, hb⟩
          exact hK _ _ rfl (Below.trans hG (Below.mono hb hG.size)) (Below.mono hb hG.size)
        · refine StepAt.plain rfl ?_
          intro f w' hG hfr hp Kx hK
          have g8 : f 8 = .pointer (some ⟨K, 0, none⟩) := hfr 8 (by kernel_rfl)
          clear hfr hp
          go_simp
          exact hK _ _ rfl hG (Below.refl _ _)
        · refine StepAt.plain rfl ?_
          intro f w' hG hfr hp Kx hK
          have g336 : f 336 = .pointer (some ⟨K, 1, none⟩) := hp 2 _ 336 rfl rfl (by kernel_rfl)
          clear hfr hp
          have q := (HX5.out.new hG).x1
          try simp only at q
          go_simp
          exact hK _ _ rfl hG (Below.refl _ _)
        · refine StepAt.plain rfl ?_
          intro f w' hG hfr hp Kx hK
          have g335 : f 335 = .int .i64 (bg : Int) := hp 1 _ 335 rfl rfl (by kernel_rfl)
          have g337 : f 337 = .int .i64 (bg : Int) := hp 3 _ 337 rfl rfl (by kernel_rfl)
          clear hfr hp
          go_simp
          exact hK _ _ (by first | rfl | simp) hG (Below.refl _ _)
        · refine StepAt.plain rfl ?_
          intro f w' hG hfr hp Kx hK
          have g338 : f 338 = .bool false := hp 4 _ 338 rfl rfl (by kernel_rfl)
          clear hfr hp
          go_simp
          exact hK _ _ rfl hG (Below.refl _ _)
        · refine StepAt.guarded 5 339 false _ rfl rfl rfl (by decide) (by kernel_rfl) (true) (by intro w v h; (have h : v = .bool false := h); rw [h]; (simp [gv, undef])) (by intro h w; show undef = gv (true) _; rw [h]; rfl) ?_
          intro hc f w' hG hfr hp Kx hK
          have g6 : f 6 = .pointer (some ⟨b, 0, none⟩) := hfr 6 (by kernel_rfl)
          clear hfr hp
          clear hc
          go_simp
          exact hK _ _ rfl hG (Below.refl _ _)
        · refine StepAt.guarded 5 339 false _ rfl rfl rfl (by decide) (by kernel_rfl) (true) (by intro w v h; (have h : v = .bool false := h); rw [h]; (simp [gv, undef])) (by intro h w; show undef = gv (true) _; rw [h]; rfl) ?_
          intro hc f w' hG hfr hp Kx hK
          have g340 : f 340 = gv (true) (.pointer (some ⟨b, 0, none⟩)) := hp 6 _ 340 rfl rfl (by kernel_rfl)
          clear hfr hp
          clear hc
          simp only [gv_true, gv_false, Bool.not_false, Bool.not_true, Bool.and_true, Bool.true_and] at g340
          go_simp
          refine (HPE.out w' (Below.trans HG.out (Below.mono hG HG.out.size))).mono ?_
          rintro e w2 ⟨rfl, hb⟩
          exact hK _ _ rfl (Below.trans hG (Below.mono hb hG.size)) (Below.mono hb hG.size)
        · refine StepAt.guarded 5 339 false _ rfl rfl rfl (by decide) (by kernel_rfl) (true) (by intro w v h; (have h : v = .bool false := h); rw [h]; (simp [gv, undef])) (by intro h w; show undef = gv (true) _; rw [h]; rfl) ?_
          intro hc f w' hG hfr hp Kx hK
          have g8 : f 8 = .pointer (some ⟨K, 0, none⟩) := hfr 8 (by kernel_rfl)
          clear hfr hp
          clear hc
          obtain ⟨q0, q1, q2, q3, q4, q5, q6, q7, q8⟩ := HX5.out.new hG
          clear q4 q5 q6 q7 q8
          go_simp
          exact hK _ _ rfl hG (Below.refl _ _)
        · refine StepAt.guarded 5 339 false _ rfl rfl rfl (by decide) (by kernel_rfl) (true) (by intro w v h; (have h : v = .bool false := h); rw [h]; (simp [gv, undef])) (by intro h w; show undef = gv (true) _; rw [h]; rfl) ?_
          intro hc f w' hG hfr hp Kx hK
          have g342 : f 342 = gv (true) (.agg #[.string s, .int .i64 (bg : Int), .int .i64 sy, .bool any]) := hp 8 _ 342 rfl rfl (by kernel_rfl)
          clear hfr hp
          clear hc
          simp only [gv_true, gv_false, Bool.not_false, Bool.not_true, Bool.and_true, Bool.true_and] at g342
          go_simp
          refine (HEND.out w').mono ?_
          rintro e w2 ⟨rfl, hb⟩
          exact hK _ _ rfl (Below.trans hG (Below.mono hb hG.size)) (Below.mono hb hG.size)
        · refine StepAt.guarded 5 339 false _ rfl rfl rfl (by decide) (by kernel_rfl) (true) (by intro w v h; (have h : v = .bool false := h); rw [h]; (simp [gv, undef])) (by intro h w; show undef = gv (true) _; rw [h]; rfl) ?_
          intro hc f w' hG hfr hp Kx hK
          have g341 : f 341 = gv (true) (.int .i64 (E : Int)) := hp 7 _ 341 rfl rfl (by kernel_rfl)
          have g343 : f 343 = gv (true) (.int .i64 (E : Int)) := hp 9 _ 343 rfl rfl (by kernel_rfl)
          clear hfr hp
          clear hc
          simp only [gv_true, gv_false, Bool.not_false, Bool.not_true, Bool.and_true, Bool.true_and] at g341 g343
          go_simp
          exact hK _ _ (by first | rfl | simp) hG (Below.refl _ _)
        · refine StepAt.plain rfl ?_
          intro f w' hG hfr hp Kx hK
          have g339 : f 339 = .bool false := hp 5 _ 339 rfl rfl (by kernel_rfl)
          have g344 : f 344 = gv (true) (.bool false) := hp 10 _ 344 rfl rfl (by kernel_rfl)
          clear hfr hp
          go_simp
          exact hK _ _ rfl hG (Below.refl _ _)
        · refine StepAt.plain rfl ?_
          intro f w' hG hfr hp Kx hK
          have g345 : f 345 = .bool false := hp 11 _ 345 rfl rfl (by kernel_rfl)
          clear hfr hp
          go_simp
          exact hK _ _ rfl hG (Below.refl _ _)
        · refine StepAt.guarded 12 346 false _ rfl rfl rfl (by decide) (by kernel_rfl) (true) (by intro w v h; (have h : v = .bool false := h); rw [h]; (simp [gv, undef])) (by intro h w; show undef = gv (true) _; rw [h]; rfl) ?_
          intro hc f w' hG hfr hp Kx hK
          have g6 : f 6 = .pointer (some ⟨b, 0, none⟩) := hfr 6 (by kernel_rfl)
          clear hfr hp
          clear hc
          go_simp
          exact hK _ _ rfl hG (Below.refl _ _)
        · refine StepAt.guarded 12 346 false _ rfl rfl rfl (by decide) (by kernel_rfl) (true) (by intro w v h; (have h : v = .bool false := h); rw [h]; (simp [gv, undef])) (by intro h w; show undef = gv (true) _; rw [h]; rfl) ?_
          intro hc f w' hG hfr hp Kx hK
          have g347 : f 347 = gv (true) (.pointer (some ⟨b, 0, none⟩)) := hp 13 _ 347 rfl rfl (by kernel_rfl)
          clear hfr hp
          clear hc
          simp only [gv_true, gv_false, Bool.not_false, Bool.not_true, Bool.and_true, Bool.true_and] at g347
          go_simp
          refine (HPS.out w' (Below.trans HG.out (Below.mono hG HG.out.size))).mono ?_
          rintro e w2 ⟨rfl, hb⟩
          exact hK _ _ rfl (Below.trans hG (Below.mono hb hG.size)) (Below.mono hb hG.size)
        · refine StepAt.guarded 12 346 false _ rfl rfl rfl (by decide) (by kernel_rfl) (true) (by intro w v h; (have h : v = .bool false := h); rw [h]; (simp [gv, undef])) (by intro h w; show undef = gv (true) _; rw [h]; rfl) ?_
          intro hc f w' hG hfr hp Kx hK
          have g8 : f 8 = .pointer (some ⟨K, 0, none⟩) := hfr 8 (by kernel_rfl)
          clear hfr hp
          clear hc
          go_simp
          exact hK _ _ rfl hG (Below.refl _ _)
        · refine StepAt.guarded 12 346 false _ rfl rfl rfl (by decide) (by kernel_rfl) (true) (by intro w v h; (have h : v = .bool false := h); rw [h]; (simp [gv, undef])) (by intro h w; show undef = gv (true) _; rw [h]; rfl) ?_
          intro hc f w' hG hfr hp Kx hK
          have g349 : f 349 = gv (true) (.pointer (some ⟨K, 2, none⟩)) := hp 15 _ 349 rfl rfl (by kernel_rfl)
          clear hfr hp
          clear hc
          simp only [gv_true, gv_false, Bool.not_false, Bool.not_true, Bool.and_true, Bool.true_and] at g349
          have q := (HX5.out.new hG).x2
          try simp only at q
          go_simp
          exact hK _ _ rfl hG (Below.refl _ _)
        · refine StepAt.guarded 12 346 false _ rfl rfl rfl (by decide) (by kernel_rfl) (true) (by intro w v h; (have h : v = .bool false := h); rw [h]; (simp [gv, undef])) (by intro h w; show undef = gv (true) _; rw [h]; rfl) ?_
          intro hc f w' hG hfr hp Kx hK
          have g348 : f 348 = gv (true) (.int .i64 sy) := hp 14 _ 348 rfl rfl (by kernel_rfl)
          have g350 : f 350 = gv (true) (.int .i64 sy) := hp 16 _ 350 rfl rfl (by kernel_rfl)
          clear hfr hp
          clear hc
          simp only [gv_true, gv_false, Bool.not_false, Bool.not_true, Bool.and_true, Bool.true_and] at g348 g350
          go_simp
          exact hK _ _ (by first | rfl | simp) hG (Below.refl _ _)
        · refine StepAt.plain rfl ?_
          intro f w' hG hfr hp Kx hK
          have g346 : f 346 = .bool false := hp 12 _ 346 rfl rfl (by kernel_rfl)
          have g351 : f 351 = gv (true) (.bool false) := hp 17 _ 351 rfl rfl (by kernel_rfl)
          clear hfr hp
          go_simp
          exact hK _ _ rfl hG (Below.refl _ _)
        · refine StepAt.plain rfl ?_
          intro f w' hG hfr hp Kx hK
          have g352 : f 352 = .bool false := hp 18 _ 352 rfl rfl (by kernel_rfl)
          clear hfr hp
          go_simp
          exact hK _ _ rfl hG (Below.refl _ _)
        · refine StepAt.guarded 19 353 false _ rfl rfl rfl (by decide) (by kernel_rfl) (true) (by intro w v h; (have h : v = .bool false := h); rw [h]; (simp [gv, undef])) (by intro h w; show undef = gv (true) _; rw [h]; rfl) ?_
          intro hc f w' hG hfr hp Kx hK
          have g6 : f 6 = .pointer (some ⟨b, 0, none⟩) := hfr 6 (by kernel_rfl)
          clear hfr hp
          clear hc
          go_simp
          exact hK _ _ rfl hG (Below.refl _ _)
        · refine StepAt.guarded 19 353 false _ rfl rfl rfl (by decide) (by kernel_rfl) (true) (by intro w v h; (have h : v = .bool false := h); rw [h]; (simp [gv, undef])) (by intro h w; show undef = gv (true) _; rw [h]; rfl) ?_
          intro hc f w' hG hfr hp Kx hK
          have g354 : f 354 = gv (true) (.pointer (some ⟨b, 0, none⟩)) := hp 20 _ 354 rfl rfl (by kernel_rfl)
          clear hfr hp
          clear hc
          simp only [gv_true, gv_false, Bool.not_false, Bool.not_true, Bool.and_true, Bool.true_and] at g354
          go_simp
          refine (HPR.out w' (Below.trans HG.out (Below.mono hG HG.out.size))).mono ?_
          rintro e w2 ⟨rfl, hb⟩
          exact hK _ _ rfl (Below.trans hG (Below.mono hb hG.size)) (Below.mono hb hG.size)
        · refine StepAt.guarded 19 353 false _ rfl rfl rfl (by decide) (by kernel_rfl) (true) (by intro w v h; (have h : v = .bool false := h); rw [h]; (simp [gv, undef])) (by intro h w; show undef = gv (true) _; rw [h]; rfl) ?_
          intro hc f w' hG hfr hp Kx hK
          have g0 : f 0 = .int .i64 (z : Int) := hfr 0 (by kernel_rfl)
          clear hfr hp
          clear hc
          go_simp
          exact hK _ _ rfl hG (Below.refl _ _)
        · refine StepAt.guarded 19 353 false _ rfl rfl rfl (by decide) (by kernel_rfl) (true) (by intro w v h; (have h : v = .bool false := h); rw [h]; (simp [gv, undef])) (by intro h w; show undef = gv (true) _; rw [h]; rfl) ?_
          intro hc f w' hG hfr hp Kx hK
          have g8 : f 8 = .pointer (some ⟨K, 0, none⟩) := hfr 8 (by kernel_rfl)
          clear hfr hp
          clear hc
          obtain ⟨q0, q1, q2, q3, q4, q5, q6, q7, q8⟩ := HX5.out.new hG
          clear q4 q5 q6 q7 q8
          go_simp
          exact hK _ _ rfl hG (Below.refl _ _)
        · refine StepAt.guarded 19 353 false _ rfl rfl rfl (by decide) (by kernel_rfl) (true) (by intro w v h; (have h : v = .bool false := h); rw [h]; (simp [gv, undef])) (by intro h w; show undef = gv (true) _; rw [h]; rfl) ?_
          intro hc f w' hG hfr hp Kx hK
          have g357 : f 357 = gv (true) (.agg #[.string s, .int .i64 (bg : Int), .int .i64 sy, .bool any]) := hp 23 _ 357 rfl rfl (by kernel_rfl)
          clear hfr hp
          clear hc
          simp only [gv_true, gv_false, Bool.not_false, Bool.not_true, Bool.and_true, Bool.true_and] at g357
          go_simp
          refine (HEND.out w').mono ?_
          rintro e w2 ⟨rfl, hb⟩
          exact hK _ _ rfl (Below.trans hG (Below.mono hb hG.size)) (Below.mono hb hG.size)
        · refine StepAt.guarded 19 353 false _ rfl rfl rfl (by decide) (by kernel_rfl) (true) (by intro w v h; (have h : v = .bool false := h); rw [h]; (simp [gv, undef])) (by intro h w; show undef = gv (true) _; rw [h]; rfl) ?_
          intro hc f w' hG hfr hp Kx hK
          have g0 : f 0 = .int .i64 (z : Int) := hfr 0 (by kernel_rfl)
          clear hfr hp
          clear hc
          go_simp
          exact hK _ _ rfl hG (Below.refl _ _)
        · refine StepAt.guarded 19 353 false _ rfl rfl rfl (by decide) (by kernel_rfl) (true) (by intro w v h; (have h : v = .bool false := h); rw [h]; (simp [gv, undef])) (by intro h w; show undef = gv (true) _; rw [h]; rfl) ?_
          intro hc f w' hG hfr hp Kx hK
          have g358 : f 358 = gv (true) (.int .i64 (E : Int)) := hp 24 _ 358 rfl rfl (by kernel_rfl)
          have g359 : f 359 = gv (true) (.int .i64 (z : Int)) := hp 25 _ 359 rfl rfl (by kernel_rfl)
          clear hfr hp
          clear hc
          simp only [gv_true, gv_false, Bool.not_false, Bool.not_true, Bool.and_true, Bool.true_and] at g358 g359
          have htm : ((E : Int)).tmod (z : Int) = (E : Int) % (z : Int) := Int.tmod_eq_emod_of_nonneg (by omega)
          have hri := HRI.out
          go_simp
          exact hK _ _ (by first | rfl | exact congrArg (Value.int .i64) HRI.out) hG (Below.refl _ _)
        · refine StepAt.guarded 19 353 false _ rfl rfl rfl (by decide) (by kernel_rfl) (true) (by intro w v h; (have h : v = .bool false := h); rw [h]; (simp [gv, undef])) (by intro h w; show undef = gv (true) _; rw [h]; rfl) ?_
          intro hc f w' hG hfr hp Kx hK
          have g356 : f 356 = gv (true) (.int .i64 (z : Int)) := hp 22 _ 356 rfl rfl (by kernel_rfl)
          have g360 : f 360 = gv (true) (.int .i64 (R : Int)) := hp 26 _ 360 rfl rfl (by kernel_rfl)
          clear hfr hp
          clear hc
          simp only [gv_true, gv_false, Bool.not_false, Bool.not_true, Bool.and_true, Bool.true_and] at g356 g360
          have hw : IntKind.i64.wrap ((z : Int) - (R : Int)) = (z : Int) - (R : Int) := IntWalk.i64_in _ (by omega)
          go_simp
          exact hK _ _ rfl hG (Below.refl _ _)
        · refine StepAt.guarded 19 353 false _ rfl rfl rfl (by decide) (by kernel_rfl) (true) (by intro w v h; (have h : v = .bool false := h); rw [h]; (simp [gv, undef])) (by intro h w; show undef = gv (true) _; rw [h]; rfl) ?_
          intro hc f w' hG hfr hp Kx hK
          have g355 : f 355 = gv (true) (.int .i64 ((z : Int) - (R : Int))) := hp 21 _ 355 rfl rfl (by kernel_rfl)
          have g361 : f 361 = gv (true) (.int .i64 ((z : Int) - (R : Int))) := hp 27 _ 361 rfl rfl (by kernel_rfl)
          clear hfr hp
          clear hc
          simp only [gv_true, gv_false, Bool.not_false, Bool.not_true, Bool.and_true, Bool.true_and] at g355 g361
          go_simp
          exact hK _ _ (by first | rfl | simp) hG (Below.refl _ _)
        · refine StepAt.plain rfl ?_
          intro f w' hG hfr hp Kx hK
          have g353 : f 353 = .bool false := hp 19 _ 353 rfl rfl (by kernel_rfl)
          have g362 : f 362 = gv (true) (.bool false) := hp 28 _ 362 rfl rfl (by kernel_rfl)
          clear hfr hp
          go_simp
          exact hK _ _ rfl hG (Below.refl _ _)
        · refine StepAt.plain rfl ?_
          intro f w' hG hfr hp Kx hK
          have g363 : f 363 = .bool false := hp 29 _ 363 rfl rfl (by kernel_rfl)
          clear hfr hp
          go_simp
          exact hK _ _ rfl hG (Below.refl _ _)
        · refine StepAt.guarded 30 364 false _ rfl rfl rfl (by decide) (by kernel_rfl) (true) (by intro w v h; (have h : v = .bool false := h); rw [h]; (simp [gv, undef])) (by intro h w; show undef = gv (true) _; rw [h]; rfl) ?_
          intro hc f w' hG hfr hp Kx hK
          have g6 : f 6 = .pointer (some ⟨b, 0, none⟩) := hfr 6 (by kernel_rfl)
          clear hfr hp
          clear hc
          go_simp
          exact hK _ _ rfl hG (Below.refl _ _)
        · refine StepAt.guarded 30 364 false _ rfl rfl rfl (by decide) (by kernel_rfl) (true) (by intro w v h; (have h : v = .bool false := h); rw [h]; (simp [gv, undef])) (by intro h w; show undef = gv (true) _; rw [h]; rfl) ?_
          intro hc f w' hG hfr hp Kx hK
          have g8 : f 8 = .pointer (some ⟨K, 0, none⟩) := hfr 8 (by kernel_rfl)
          clear hfr hp
          clear hc
          go_simp
          exact hK _ _ rfl hG (Below.refl _ _)
        · refine StepAt.guarded 30 364 false _ rfl rfl rfl (by decide) (by kernel_rfl) (true) (by intro w v h; (have h : v = .bool false := h); rw [h]; (simp [gv, undef])) (by intro h w; show undef = gv (true) _; rw [h]; rfl) ?_
          intro hc f w' hG hfr hp Kx hK
          have g366 : f 366 = gv (true) (.pointer (some ⟨K, 1, none⟩)) := hp 32 _ 366 rfl rfl (by kernel_rfl)
          clear hfr hp
          clear hc
          simp only [gv_true, gv_false, Bool.not_false, Bool.not_true, Bool.and_true, Bool.true_and] at g366
          have q := (HX5.out.new hG).x1
          try simp only at q
          go_simp
          exact hK _ _ rfl hG (Below.refl _ _)
        · refine StepAt.guarded 30 364 false _ rfl rfl rfl (by decide) (by kernel_rfl) (true) (by intro w v h; (have h : v = .bool false := h); rw [h]; (simp [gv, undef])) (by intro h w; show undef = gv (true) _; rw [h]; rfl) ?_
          intro hc f w' hG hfr hp Kx hK
          have g365 : f 365 = gv (true) (.pointer (some ⟨b, 0, none⟩)) := hp 31 _ 365 rfl rfl (by kernel_rfl)
          have g367 : f 367 = gv (true) (.int .i64 (bg : Int)) := hp 33 _ 367 rfl rfl (by kernel_rfl)
          clear hfr hp
          clear hc
          simp only [gv_true, gv_false, Bool.not_false, Bool.not_true, Bool.and_true, Bool.true_and] at g365 g367
          go_simp
          refine (HPL.out w' (Below.trans HG.out (Below.mono hG HG.out.size))).mono ?_
          rintro e w2 ⟨rfl, hb⟩
          exact hK _ _ rfl (Below.trans hG (Below.mono hb hG.size)) (Below.mono hb hG.size)
        · refine StepAt.guarded 30 364 false _ rfl rfl rfl (by decide) (by kernel_rfl) (true) (by intro w v h; (have h : v = .bool false := h); rw [h]; (simp [gv, undef])) (by intro h w; show undef = gv (true) _; rw [h]; rfl) ?_
          intro hc f w' hG hfr hp Kx hK
          have g24 : f 24 = .int .i64 0 := hfr 24 (by kernel_rfl)
          clear hfr hp
          clear hc
          go_simp
          exact hK _ _ rfl hG (Below.refl _ _)
        · refine StepAt.guarded 30 364 false _ rfl rfl rfl (by decide) (by kernel_rfl) (true) (by intro w v h; (have h : v = .bool false := h); rw [h]; (simp [gv, undef])) (by intro h w; show undef = gv (true) _; rw [h]; rfl) ?_
          intro hc f w' hG hfr hp Kx hK
          have g368 : f 368 = gv (true) (.int .i64 0) := hp 34 _ 368 rfl rfl (by kernel_rfl)
          have g369 : f 369 = gv (true) (.int .i64 0) := hp 35 _ 369 rfl rfl (by kernel_rfl)
          clear hfr hp
          clear hc
          simp only [gv_true, gv_false, Bool.not_false, Bool.not_true, Bool.and_true, Bool.true_and] at g368 g369
          go_simp
          exact hK _ _ (by first | rfl | simp) hG (Below.refl _ _)
        · refine StepAt.plain rfl ?_
          intro f w' hG hfr hp Kx hK
          have g364 : f 364 = .bool false := hp 30 _ 364 rfl rfl (by kernel_rfl)
          have g370 : f 370 = gv (true) (.bool false) := hp 36 _ 370 rfl rfl (by kernel_rfl)
          clear hfr hp
          go_simp
          exact hK _ _ rfl hG (Below.refl _ _)
        · refine StepAt.plain rfl ?_
          intro f w' hG hfr hp Kx hK
          have g371 : f 371 = .bool false := hp 37 _ 371 rfl rfl (by kernel_rfl)
          clear hfr hp
          go_simp
          exact hK _ _ rfl hG (Below.refl _ _)
        · refine StepAt.guarded 38 372 false _ rfl rfl rfl (by decide) (by kernel_rfl) (true) (by intro w v h; (have h : v = .bool false := h); rw [h]; (simp [gv, undef])) (by intro h w; show undef = gv (true) _; rw [h]; rfl) ?_
          intro hc f w' hG hfr hp Kx hK
          have g5 : f 5 = .pointer (some ⟨d, 0, none⟩) := hfr 5 (by kernel_rfl)
          clear hfr hp
          clear hc
          go_simp
          exact hK _ _ rfl hG (Below.refl _ _)
        · refine StepAt.guarded 38 372 false _ rfl rfl rfl (by decide) (by kernel_rfl) (true) (by intro w v h; (have h : v = .bool false := h); rw [h]; (simp [gv, undef])) (by intro h w; show undef = gv (true) _; rw [h]; rfl) ?_
          intro hc f w' hG hfr hp Kx hK
          have g0 : f 0 = .int .i64 (z : Int) := hfr 0 (by kernel_rfl)
          clear hfr hp
          clear hc
          go_simp
          exact hK _ _ rfl hG (Below.refl _ _)
        · refine StepAt.guarded 38 372 false _ rfl rfl rfl (by decide) (by kernel_rfl) (true) (by intro w v h; (have h : v = .bool false := h); rw [h]; (simp [gv, undef])) (by intro h w; show undef = gv (true) _; rw [h]; rfl) ?_
          intro hc f w' hG hfr hp Kx hK
          have g8 : f 8 = .pointer (some ⟨K, 0, none⟩) := hfr 8 (by kernel_rfl)
          clear hfr hp
          clear hc
          obtain ⟨q0, q1, q2, q3, q4, q5, q6, q7, q8⟩ := HX5.out.new hG
          clear q4 q5 q6 q7 q8
          go_simp
          exact hK _ _ rfl hG (Below.refl _ _)
        · refine StepAt.guarded 38 372 false _ rfl rfl rfl (by decide) (by kernel_rfl) (true) (by intro w v h; (have h : v = .bool false := h); rw [h]; (simp [gv, undef])) (by intro h w; show undef = gv (true) _; rw [h]; rfl) ?_
          intro hc f w' hG hfr hp Kx hK
          have g373 : f 373 = gv (true) (.pointer (some ⟨d, 0, none⟩)) := hp 39 _ 373 rfl rfl (by kernel_rfl)
          have g374 : f 374 = gv (true) (.int .i64 (z : Int)) := hp 40 _ 374 rfl rfl (by kernel_rfl)
          have g375 : f 375 = gv (true) (.agg #[.string s, .int .i64 (bg : Int), .int .i64 sy, .bool any]) := hp 41 _ 375 rfl rfl (by kernel_rfl)
          clear hfr hp
          clear hc
          simp only [gv_true, gv_false, Bool.not_false, Bool.not_true, Bool.and_true, Bool.true_and] at g373 g374 g375
          go_simp
          refine (HPF.out w' (Below.trans HG.out (Below.mono hG HG.out.size))).mono ?_
          rintro e w2 ⟨rfl, hb⟩
          exact hK _ _ rfl (Below.trans hG (Below.mono hb hG.size)) (Below.mono hb hG.size)
        · refine StepAt.guarded 38 372 false _ rfl rfl rfl (by decide) (by kernel_rfl) (true) (by intro w v h; (have h : v = .bool false := h); rw [h]; (simp [gv, undef])) (by intro h w; show undef = gv (true) _; rw [h]; rfl) ?_
          intro hc f w' hG hfr hp Kx hK
          have g376 : f 376 = gv (true) (.bool true) := hp 42 _ 376 rfl rfl (by kernel_rfl)
          clear hfr hp
          clear hc
          simp only [gv_true, gv_false, Bool.not_false, Bool.not_true, Bool.and_true, Bool.true_and] at g376
          go_simp
          exact hK _ _ (by first | rfl | simp) hG (Below.refl _ _)
        · refine StepAt.plain rfl ?_
          intro f w' hG hfr hp Kx hK
          have g372 : f 372 = .bool false := hp 38 _ 372 rfl rfl (by kernel_rfl)
          have g377 : f 377 = gv (true) (.bool false) := hp 43 _ 377 rfl rfl (by kernel_rfl)
          clear hfr hp
          go_simp
          exact hK _ _ rfl hG (Below.refl _ _)
      · intro f4 w7 hG hfr hR
        have y0 : f4 0 = .int .i64 (z : Int) := (hfr 0 (by kernel_rfl))
        have y5 : f4 5 = .pointer (some ⟨d, 0, none⟩) := (hfr 5 (by kernel_rfl))
        have y6 : f4 6 = .pointer (some ⟨b, 0, none⟩) := (hfr 6 (by kernel_rfl))
        have y8 : f4 8 = .pointer (some ⟨K, 0, none⟩) := (hfr 8 (by kernel_rfl))
        have y1 : f4 1 = f 1 := (hfr 1 (by kernel_rfl))
        have y51 : f4 51 = f 51 := (hfr 51 (by kernel_rfl))
        have y52 : f4 52 = f 52 := (hfr 52 (by kernel_rfl))
        have y53 : f4 53 = f 53 := (hfr 53 (by kernel_rfl))
        have y378 : f4 378 = .bool false := hR 44 _ 378 rfl rfl
        have HG7 := Lib.hid hG
        rw [fr_lit380 f4, y0, y5, y6, y8, y1, y51, y52, y53, y378]
        clear hR hG hfr y0 y5 y6 y8 y1 y51 y52 y53 y378
        go_wp2_with fail
        refine HQ.out _ _ ⟨_, lit_fr380 _ rfl, f0.symm, rfl, f5.symm, f6.symm, f8.symm, rfl, rfl, rfl, HP4.out.new (Chg.of_below ?_)⟩
        exact Below.trans HG.out (Below.mono HG7.out HG.out.size)
end Go.Proofs.YtgephceihkkokaaGreatDoor
