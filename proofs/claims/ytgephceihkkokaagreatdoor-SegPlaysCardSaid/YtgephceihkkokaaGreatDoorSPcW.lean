/-
  The walk of SegPlays: the round, the loop, the whole.
-/
import Derived.Test.YtgephceihkkokaaGreatDoorSPcAll
import Derived.Test.YtgephceihkkokaaGreatDoorSPcT
import Derived.Deep.DeepCutAuto
import Derived.Deep.CutBlock
namespace Go.Proofs.YtgephceihkkokaaGreatDoor
open Go.RowKit Go.Deep
set_option linter.unusedVariables false
set_option linter.unusedSimpArgs false
attribute [local go_sem] fr_opt
/-- The switch, whatever the call is. -/
theorem sw_any (f : Nat → Value) (w1 w4 : World) (b d k z i0 : Nat) (B : List UInt8) (sy : Int) (any : Bool) (K K2 : Nat) (s : ByteArray) (bg E R : Nat) (x : OpR) (h : SwIn f w1 w4 b d k z i0 B sy any K K2 s bg E R x) (J : Act → World → Prop) (Q : Exit → Act → World → Prop) (hJ : ∀ a w, SwI f w1 d (2 * k + 2) z K K2 x a w → J a w) :
    Code.wp Tryz.prog swC (Exit.then J Q) (Fr 380 f) w4 := by
  by_cases k0 : x.k = 0
  · exact sw_0 f w1 w4 b d k z i0 B sy any K K2 s bg E R x h J Q hJ k0
  by_cases k1 : x.k = 1
  · exact sw_1 f w1 w4 b d k z i0 B sy any K K2 s bg E R x h J Q hJ k1
  by_cases k2 : x.k = 2
  · exact sw_2 f w1 w4 b d k z i0 B sy any K K2 s bg E R x h J Q hJ k2
  by_cases k3 : x.k = 3
  · exact sw_3 f w1 w4 b d k z i0 B sy any K K2 s bg E R x h J Q hJ k3
  by_cases k4 : x.k = 4
  · exact sw_4 f w1 w4 b d k z i0 B sy any K K2 s bg E R x h J Q hJ k4
  by_cases k5 : x.k = 5
  · exact sw_5 f w1 w4 b d k z i0 B sy any K K2 s bg E R x h J Q hJ k5
  exact sw_6 f w1 w4 b d k z i0 B sy any K K2 s bg E R x h J Q hJ (by simpa using k0) (by simpa using k1) (by simpa using k2) (by simpa using k3) (by simpa using k4) (by simpa using k5)
/-- A cut, the frame behind a letter. -/
theorem cut_fr {P : Program} {s : Code} {K : Act → World → Prop} {Q' : Exit → Act → World → Prop} {l : List Value} {w : World} (R : (Nat → Value) → Act → World → Prop) (hl : l.length = 380)
    (rest : ∀ f, (∀ t, f t = l.getD t undef) → ∀ a' w', R f a' w' → K a' w') (first : ∀ f, (∀ t, f t = l.getD t undef) → ∀ (J : Act → World → Prop), (∀ a' w', R f a' w' → J a' w') → s.wp P (Exit.then J Q') (Fr 380 f) w) : s.wp P (Exit.then K Q') ⟨l.toArray, []⟩ w := by
  rw [lit_fr380 l hl]
  exact first _ (fun _ => rfl) K (fun a' w' h => rest _ (fun _ => rfl) a' w' h)
/-- The loop's frame and world. -/
def LpI (w1 : World) (d z K n0 cap0 : Nat) (a0 : Option Addr) (a : Act) (w : World) : Prop := ∃ (f : Nat → Value) (k b i0 : Nat) (B : List UInt8) (sy : Int) (any : Bool), a = Fr 380 f ∧ f 0 = .int .i64 (z : Int) ∧ f 1 = .slice a0 n0 cap0 ∧ f 5 = .pointer (some ⟨d, 0, none⟩) ∧ f 6 = .pointer (some ⟨b, 0, none⟩) ∧ f 8 = .pointer (some ⟨K, 0, none⟩) ∧ f 51 = .slice a0 n0 cap0 ∧ f 52 = .int .i64 (n0 : Int) ∧ f 53 = .int .i64 (k : Int) ∧ k ≤ n0 ∧ PlayX w1 w b d (2 * k) z i0 B sy any [(K, xC B (z * i0) sy any)]
def LpM (n0 : Nat) (a : Act) (_ : World) : Nat := n0 - (intOf (a.tmps.getD 53 undef)).toNat
set_option maxHeartbeats 16000000 in
set_option maxRecDepth 100000 in
theorem walk_SegPlays (size : Int) (v0 : Value) (os0 : List OpR) (w : World) (ht : Tab10 w) (hsz : (Lit.int .i64 size).wf = true) (h0 : OpsR w v0 os0) (l0 : os0.length ≤ maxLen) (r0 : ∀ x ∈ os0, x.s.size ≤ maxLen) :
    Calls Tryz.prog 3 #[.int .i64 size, v0] w (FineR w) := by
  obtain ⟨a0, cap0, hv0, _⟩ := id h0
  obtain ⟨n0, hn0⟩ : ∃ n, n = os0.length := ⟨_, rfl⟩
  rw [← hn0] at hv0 l0
  subst hv0
  unfold maxLen at l0
  have HAW := Lib.hid (awake_any w ht)
  have HT := Lib.hid ht
  have HS0 := Lib.hid h0
  have HN0 := Lib.hid hn0
  have HR0 := Lib.hid r0
  clear ht h0 hn0 r0
  go_enter Tryz.func3, Tryz.ntmps3
  go_wp2_with fail
  refine HAW.out.mono ?_
  rintro e w1 ⟨rfl, hc1⟩
  have HCW := Lib.hid hc1
  have HT1 := Lib.hid (tab_chg HT.out hc1)
  have HO0 := Lib.hid (HS0.out.new hc1)
  clear hc1 HS0
  by_cases hn50 : 100 < n0
  · go_wp2_with fail
    go_ret
    exact ⟨rfl, HCW.out⟩
  have hn52 : n0 ≤ 100 := by omega
  go_wp2_with fail
  refine (new_any 1048576 _).mono ?_
  rintro e w2 ⟨rfl, hd2, hb2⟩
  obtain ⟨d, hd⟩ : ∃ d, d = w1.heap.size := ⟨_, rfl⟩
  rw [← hd] at hd2 ⊢
  have hdg : DiskG w1 w2 d ⟨d, none, []⟩ (newSt 1048576) := ⟨hd2, rfl, Chg.of_below hb2, fun k hk => by simp [Gh.fp] at hk; omega⟩
  have HC2 := Lib.hid (hdg.chg)
  have HDG := Lib.hid hdg
  clear hd2 hb2 hdg hd
  by_cases hbad : size < 16 ∨ 4096 < size
  · have HOB := Lib.hid (open_bad d lH size w2 hbad)
    have hbs : (size < 16) ∨ (decide (size < 16) = false ∧ 4096 < size) := by
      rcases hbad with h | h
      · exact .inl h
      · exact .inr ⟨decide_eq_false (by omega), h⟩
    clear hbad
    go_wp2_with fail
    refine HOB.out.mono ?_
    rintro e w3 ⟨rfl, hb3⟩
    have HB3 := Lib.hid (HCW.out.trans (HC2.out.trans (Chg.of_below (S := fun _ => False) hb3) (fun _ _ x => x)) (fun _ _ x => x))
    clear hb3
    rcases hbs with hb | ⟨hb, hb'⟩
    all_goals
      go_wp2_with fail
      go_ret
      exact ⟨rfl, HB3.out⟩
  obtain ⟨z, rfl⟩ : ∃ z : Nat, size = (z : Int) := ⟨size.toNat, by omega⟩
  have hz1 : 16 ≤ z := by omega
  have hz2 : z ≤ 4096 := by omega
  have HO := Lib.hid (play_first HDG.out HT1.out hz1 hz2)
  have hz3 : ¬ ((z : Int) < 16) := by omega
  have hz4 : ¬ (4096 < (z : Int)) := by omega
  have hz5 : decide ((z : Int) < 16) = false := decide_eq_false hz3
  have hz6 : decide (4096 < (z : Int)) = false := decide_eq_false hz4
  clear hbad HDG hsz
  go_wp2_with fail
  refine HO.out.mono ?_
  rintro e w3 ⟨b, rfl, hp⟩
  obtain ⟨K, hK⟩ : ∃ K, K = w3.heap.size := ⟨_, rfl⟩
  have hpx := (PlayX.drop_all hp).add (.cells #[.string ⟨#[]⟩, .int .i64 0, .int .i64 0, .bool false] 31)
  rw [← hK] at hpx
  have HPX : Hid (PlayX w1 (w3.alloc (.cells #[.string ⟨#[]⟩, .int .i64 0, .int .i64 0, .bool false] 31)) b d 0 z 0 [] 0 false [(K, xC [] (z * 0) 0 false)]) := Lib.hid hpx
  have HK := Lib.hid hK
  clear hp hpx hK HO hz3 hz4 hz5 hz6
  go_wp2_with fail
  rw [← HK.out]
  refine wp_loop (LpI w1 d z K n0 cap0 a0) (LpM n0) ?_ ?_
  · exact ⟨_, 0, b, 0, [], 0, false, lit_fr380 _ rfl, rfl, rfl, rfl, rfl, rfl, rfl, rfl, rfl, Nat.zero_le _, HPX.out⟩
  clear HPX HAW
  rintro a wr ⟨f, k, b, i0, B, sy, any, rfl, f0, f1, f5, f6, f8, f51, f52, f53, hk, hpx⟩
  have HM : Hid (∀ a' w' (k' : Nat), a'.tmps.getD 53 undef = .int .i64 ((k' : Nat) : Int) → k < k' → k' ≤ n0 → LpM n0 a' w' < LpM n0 (Fr 380 f) wr) := Lib.hid fun a' w' k' h1 h2 h3 => by
    have h4 : (Fr 380 f).tmps.getD 53 undef = .int .i64 (k : Int) := (fr_get (by decide)).trans f53
    unfold LpM
    rw [h1, h4]
    simp only [intOf, Int.toNat_natCast]
    omega
  obtain ⟨M0, hM0⟩ : ∃ M0, M0 = LpM n0 (Fr 380 f) wr := ⟨_, rfl⟩
  rw [← hM0] at HM ⊢
  clear hM0
  rw [fr_lit380 f, f0, f1, f5, f6, f8, f51, f52, f53]
  by_cases hlt : k < n0
  case neg =>
    have HC := Lib.hid hpx.chg
    have hltI : ¬ ((k : Int) < (n0 : Int)) := by omega
    clear hpx
    go_wp2_with fail
    go_ret
    exact ⟨rfl, HCW.out.trans HC.out (fun _ _ x => x)⟩
  have hk50 : k < 100 := by omega
  have hltI : (k : Int) < (n0 : Int) := by omega
  obtain ⟨b0, o0, x, rfl, hx0, hin, hat⟩ := HO0.out.at_ (i := k) (by rw [← HN0.out]; exact hlt)
  obtain ⟨c0, c1, c2, c3⟩ := hat.new hpx.chg
  have hxl := HR0.out x hin
  obtain ⟨K2, hK2⟩ : ∃ K2, K2 = wr.heap.size := ⟨_, rfl⟩
  have hpo := hpx.add (oC x)
  have hKK : K ≠ K2 := by
    have := hpx.at_ (List.mem_singleton.2 rfl)
    have := (Array.getElem?_eq_some_iff.1 this).1
    simp only at this
    omega
  obtain ⟨xk, xa, xn, xs⟩ := x
  simp only at c0 c1 c2 c3 hxl
  obtain ⟨wa, hwa⟩ : ∃ wa, wa = wr.alloc (oC ⟨xk, xa, xn, xs⟩) := ⟨_, rfl⟩
  rw [← hwa, ← hK2] at hpo
  have HP : Hid (PX w1 wa b d (2 * k) z i0 B sy any K K2 ⟨xk, xa, xn, xs⟩) := Lib.hid ⟨hpo, hKK⟩
  obtain ⟨hb1, hb2, hend, hen⟩ := hpx.play.bounds
  obtain ⟨s, hs⟩ : ∃ s : ByteArray, s = ⟨B.toArray⟩ := ⟨_, rfl⟩
  have hss : s.size = B.length := by rw [hs]; show B.toArray.size = _; rw [List.size_toArray]
  obtain ⟨bg, hbg⟩ : ∃ bg, bg = z * i0 := ⟨_, rfl⟩
  rw [← hbg] at hend hen
  obtain ⟨E, hE⟩ : ∃ E, E = bg + s.size := ⟨_, rfl⟩
  have hE9 : E ≤ 99000000 := by omega
  obtain ⟨R, hR⟩ : ∃ R, R = E % z := ⟨_, rfl⟩
  have hRz : R < z := by rw [hR]; exact Nat.mod_lt _ (by omega)
  have hRi : (E : Int) % (z : Int) = (R : Int) := by rw [hR]; exact (Int.natCast_emod E z).symm
  have HEND := Lib.hid (fun W => rowend_E s bg E sy any hE (by omega) W)
  have HXC : Hid (XCells wa K K2 s bg sy any ⟨xk, xa, xn, xs⟩) := Lib.hid (xcells_of HP.out.1 hs hbg)
  have hz7 : ¬ z = 0 := by omega
  have htm : ((E : Int)).tmod (z : Int) = (E : Int) % (z : Int) := Int.tmod_eq_emod_of_nonneg (by omega)
  have hwR : IntKind.i64.wrap ((z : Int) - (R : Int)) = (z : Int) - (R : Int) := IntWalk.i64_in _ (by omega)
  have HS := Lib.hid hs
  have HSS := Lib.hid hss
  have HBG := Lib.hid hbg
  have HE := Lib.hid hE
  have HR := Lib.hid hR
  have HW := Lib.hid hwa
  have HK2 := Lib.hid hK2
  clear hs hss hbg hE hR hpo hwa hK2 hpx hat hx0 hin
  by_cases hlong : 300 < xs.size
  · go_upto_region 15 with fail
    have hwa2 : wr.alloc (.cells #[.int .i64 xk, .int .i64 xa, .int .i64 xn, .string xs] 33) = wa := HW.out.symm
    rw [hwa2, ← HK2.out]
    have o3' := HXC.out.o3
    simp only at o3'
    clear htm hwR hRi
    go_wp2_with fail
    go_ret
    exact ⟨rfl, HCW.out.trans HP.out.1.chg (fun _ _ x => x)⟩
  have hxs : xs.size ≤ 300 := by omega
  go_upto_region 15 with fail
  have hwa2 : wr.alloc (.cells #[.int .i64 xk, .int .i64 xa, .int .i64 xn, .string xs] 33) = wa := HW.out.symm
  rw [hwa2, ← HK2.out]
  clear c0 c1 c2 c3 hwa2
  obtain ⟨x0, x1, x2, x3, o0', o1', o2', o3', zz⟩ := HXC.out
  simp only at o0' o1' o2' o3'
  clear zz
  go_wp2_with fail
  refine (HEND.out _).mono ?_
  rintro e w4 ⟨rfl, hb4⟩
  have HP4 := Lib.hid (HP.out.new (Chg.of_below hb4))
  have HX4 := Lib.hid (HXC.out.new hb4)
  clear hb4 x0 x1 x2 x3 o0' o1' o2' o3' HP HXC
  obtain ⟨x0, x1, x2, x3, o0', o1', o2', o3', zz⟩ := HX4.out
  simp only at o0' o1' o2' o3'
  clear zz
  go_upto_block 2 with fail
  refine cut_fr (fun f => SwI f w1 d (2 * k + 2) z K K2 ⟨xk, xa, xn, xs⟩) rfl ?_ ?_
  · rintro f9 h9 a' w5 ⟨f2, rfl, g0, g1, g5, g8, g10, g51, g52, g53, b', i1, B1, sy1, any1, g6, hp1⟩
    have g0 : f2 0 = .int .i64 (z : Int) := g0.trans (h9 0)
    have g1 : f2 1 = .slice (some ⟨b0, o0, none⟩) n0 cap0 := g1.trans (h9 1)
    have g5 : f2 5 = .pointer (some ⟨d, 0, none⟩) := g5.trans (h9 5)
    have g8 : f2 8 = .pointer (some ⟨K, 0, none⟩) := g8.trans (h9 8)
    have g51 : f2 51 = .slice (some ⟨b0, o0, none⟩) n0 cap0 := g51.trans (h9 51)
    have g52 : f2 52 = .int .i64 (n0 : Int) := g52.trans (h9 52)
    have g53 : f2 53 = .int .i64 (k : Int) := g53.trans (h9 53)
    clear g10 x0 x1 x2 x3 o0' o1' o2' o3' htm hwR hRi HP4 HX4 HEND
    go_step
    obtain ⟨q1, q2, q3, q4⟩ := hp1.1.play.bounds
    have q5 : (⟨B1.toArray⟩ : ByteArray).size = B1.length := by show B1.toArray.size = _; rw [List.size_toArray]
    refine tl_any f2 w1 w5 b' d (2 * k + 2) z i1 B1 sy1 any1 K K2 ⟨B1.toArray⟩ (z * i1) (z * i1 + (⟨B1.toArray⟩ : ByteArray).size) ((z * i1 + (⟨B1.toArray⟩ : ByteArray).size) % z) ⟨xk, xa, xn, xs⟩ g0 g5 g6 g8 (by omega) hp1 rfl q5 rfl rfl rfl q1 q2 (by rw [q5]; exact q3) _ ?_
    rintro a' w6 ⟨f3, rfl, e0, e1, e5, e6, e8, e51, e52, e53, hp2⟩
    rw [g0] at e0
    rw [g1] at e1
    rw [g5] at e5
    rw [g6] at e6
    rw [g8] at e8
    rw [g51] at e51
    rw [g52] at e52
    rw [g53] at e53
    have HP2 := Lib.hid hp2
    clear hp1 hp2 g0 g1 g5 g6 g8 g51 g52 g53 q1 q2 q3 q4 q5
    rw [fr_lit380 f3, e0, e1, e5, e6, e8, e51, e52, e53]
    go_wp2_with fail
    refine ⟨⟨_, k + 1, b', i1, B1, sy1, any1, lit_fr380 _ rfl, rfl, rfl, rfl, rfl, rfl, rfl, rfl, ?_, by omega, ?_⟩, ?_⟩
    · show Value.int .i64 _ = _
      go_num
    · exact (PlayX.few HP2.out.1 (fun p hp => by rw [List.mem_singleton] at hp; rw [hp]; exact List.mem_cons_self ..)).more (by omega)
    · exact HM.out _ _ (k + 1) (by show Value.int .i64 _ = _; go_num) (by omega) (by omega)
  · intro f9 h9 J hJ
    refine sw_any f9 w1 w4 b d k z i0 B sy any K K2 s bg E R ⟨xk, xa, xn, xs⟩ ⟨h9 0, h9 5, h9 6, h9 8, h9 10, h9 11, h9 68, HP4.out, hk50, HS.out, HSS.out, HBG.out, HE.out, HR.out, hb1, hb2, hE9, hxs⟩ J _ ?_
    exact hJ
theorem walkF_SegPlays (size : Int) (v0 : Value) (os0 : List OpR) (w : World) (ht : Tab10 w) (hsz : (Lit.int .i64 size).wf = true) (h0 : OpsR w v0 os0) (l0 : os0.length ≤ maxLen) (r0 : ∀ x ∈ os0, x.s.size ≤ maxLen) :
    Calls Tryz.prog 3 #[.int .i64 size, v0] w (fun e w' => e = .returned (.bool true) ∧ Below w.heap.size w w') :=
  (walk_SegPlays size v0 os0 w ht hsz h0 l0 r0).mono fun e w' hh => ⟨hh.1, hh.2.below (fun _ _ e => e.elim) (Nat.le_refl _)⟩
end Go.Proofs.YtgephceihkkokaaGreatDoor
