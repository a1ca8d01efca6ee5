/-
  The walk of SegRows.
-/
import Derived.Test.YtmjbbcokglnmjaaGreatDoorSRowsP
import Derived.Deep.DeepCutAuto
namespace Go.Proofs.YtmjbbcokglnmjaaGreatDoor
open Go.RowKit Go.Deep
set_option linter.unusedVariables false
set_option linter.unusedSimpArgs false
attribute [local go_sem] fr_opt

theorem two_start {w0 w : World} {d a : Nat} {g : Gh} {ma : RowM} (h1 : RowG w0 w a g (newSt 1048576) ma) (hd : g.d = d) (hh : ma.head = aH) (hk : RowK 0 ma (newSt 1048576) 16 0 0 []) :
    Calls Tryz.prog 10 #[.pointer (some ⟨d, 0, none⟩), .string bH, .int .i64 20] w (TwoO w0 a d 0 ⟨#[]⟩) := by
  have hn : RowK 0 (newRow bH 20) (newSt 1048576) 20 0 0 [] := newK (by decide) (by decide) (by decide) hk.row.calm hk.cap hk.size hk.nm (fun nm h => by cases h)
  refine (k_open (DiskG.of h1 hd) h1.tab0 hn (by omega)).mono ?_
  rintro e w' ⟨b', rfl, hb', g', m', hg', hto, hh', hs', hk'⟩
  have ho := h1.op hg'.disk hto
  have hlt := h1.row.lt
  exact ⟨b', rfl, g', _, ma, m', 0, 0, 0, [], ho.1, hg', hto.d.trans hd, by omega, hh, hh', by rw [hs', hk'.row.end_]; omega, hk.more (by omega), hk'.more (by omega)⟩
def FirstO (w0 w : World) (d : Nat) (e : Ending) (w' : World) : Prop := ∃ a, e = .returned (.tuple #[.pointer (some ⟨a, 0, none⟩), .int .i64 0]) ∧ ∃ g ma, RowG w0 w' a g (newSt 1048576) ma ∧ g.d = d ∧ ma.head = aH ∧ RowK 0 ma (newSt 1048576) 16 0 0 []
theorem first_open {w0 w : World} {d : Nat} {g : Gh} (hd : DiskG w0 w d g (newSt 1048576)) (ht : Tab10 w0) :
    Calls Tryz.prog 10 #[.pointer (some ⟨d, 0, none⟩), .string aH, .int .i64 16] w (FirstO w0 w d) := by
  have hn : RowK 0 (newRow aH 16) (newSt 1048576) 16 0 0 [] := newK (by decide) (by decide) (by decide) (new_calm _) rfl (Nat.le_refl _) (fun p h => by cases h) (fun nm h => by cases h)
  refine (k_open hd ht hn (by omega)).mono ?_
  rintro e w' ⟨b', rfl, hb', g', m', hg', hto, hh', hs', hk'⟩
  exact ⟨b', rfl, g', m', hg', hto.d.trans hd.d, hh', hk'⟩
/-- A call stands there. -/
def HasOp (w : World) (a : Option Addr) (os : List OpR) (k : Nat) : Prop := ∃ b o x, a = some ⟨b, o, none⟩ ∧ k < os.length ∧ x ∈ os ∧ OpRAt w b (o + k * 4) x
set_option maxHeartbeats 8000000 in
set_option maxRecDepth 100000 in
theorem walk_SegRows (v0 v1 : Value) (os0 os1 : List OpR) (w : World) (ht : Tab10 w) (h0 : OpsR w v0 os0) (h1 : OpsR w v1 os1) (l0 : os0.length ≤ maxLen) (l1 : os1.length ≤ maxLen) (r0 : ∀ x ∈ os0, x.s.size ≤ maxLen) (r1 : ∀ x ∈ os1, x.s.size ≤ maxLen) :
    Calls Tryz.prog 6 #[v0, v1] w (FineR w) := by
  obtain ⟨a0, cap0, hv0, _⟩ := id h0
  obtain ⟨a1, cap1, hv1, _⟩ := id h1
  obtain ⟨n0, hn0⟩ : ∃ n, n = os0.length := ⟨_, rfl⟩
  obtain ⟨n1, hn1⟩ : ∃ n, n = os1.length := ⟨_, rfl⟩
  rw [← hn0] at hv0 l0
  rw [← hn1] at hv1 l1
  subst hv0 hv1
  unfold maxLen at l0 l1
  have HAW := Lib.hid (awake_any w ht)
  have HT := Lib.hid ht
  have HS0 := Lib.hid h0
  have HS1 := Lib.hid h1
  have HN0 := Lib.hid hn0
  have HN1 := Lib.hid hn1
  have HR0 := Lib.hid r0
  have HR1 := Lib.hid r1
  clear ht h0 h1 hn0 hn1 r0 r1
  go_enter Tryz.func6, Tryz.ntmps6
  go_wp2_with fail
  refine HAW.out.mono ?_
  rintro e w1 ⟨rfl, hc1⟩
  have HCW := Lib.hid hc1
  have HT1 := Lib.hid (tab_chg HT.out hc1)
  have HO0 := Lib.hid (HS0.out.new hc1)
  have HO1 := Lib.hid (HS1.out.new hc1)
  clear hc1 HS0 HS1
  by_cases hn50 : 50 < n0
  · go_wp2_with fail
    go_ret
    exact ⟨rfl, HCW.out⟩
  by_cases hn51 : 50 < n1
  · go_wp2_with fail
    go_ret
    exact ⟨rfl, HCW.out⟩
  have hn52 : n0 ≤ 50 := by omega
  have hn53 : n1 ≤ 50 := by omega
  go_wp2_with fail
  refine (new_any 1048576 _).mono ?_
  rintro e w2 ⟨rfl, hd2, hb2⟩
  obtain ⟨d, hd⟩ : ∃ d, d = w1.heap.size := ⟨_, rfl⟩
  rw [← hd] at hd2 ⊢
  have hdg : DiskG w1 w2 d ⟨d, none, []⟩ (newSt 1048576) := ⟨hd2, rfl, Chg.of_below hb2, fun k hk => by simp [Gh.fp] at hk; omega⟩
  have HO := Lib.hid (first_open hdg HT1.out)
  clear hd2 hb2 hdg hd
  go_wp2_with fail
  refine HO.out.mono ?_
  rintro e w3 ⟨a, rfl, g, ma, hg, hgd, hh, hk⟩
  have HP := Lib.hid (two_start hg hgd hh hk)
  clear hg hgd hh hk HO
  go_wp2_with fail
  refine HP.out.mono ?_
  rintro e w4 ⟨b, rfl, htwo⟩
  have HTW : Hid (Two w1 w4 a b d 2 ⟨#[]⟩) := Lib.hid htwo
  clear htwo HP
  go_wp2_with fail
  go_loopg [8, 10, 12] (max n0 n1) (fun gg p8 p10 p12 wr => ∃ (k : Nat) (A : ByteArray) (b : Nat), k ≤ max n0 n1 ∧ gg = max n0 n1 - k ∧ p8 = .pointer (some ⟨b, 0, none⟩) ∧ p10 = .string A ∧ p12 = .int .i64 k ∧ Two w1 wr a b d (4 * k + 2) A)
  case atStart => exact ⟨0, ⟨#[]⟩, b, Nat.zero_le _, rfl, rfl, rfl, rfl, HTW.out⟩
  case round =>
    obtain ⟨k, A, bb, hk, rfl, rfl, rfl, rfl, htwo⟩ := hrel
    have HW := Lib.hid htwo
    have hsm := htwo.small
    clear htwo HTW
    by_cases hlt : k < max n0 n1
    · have hk50 : k < 50 := by omega
      have hltI : (k : Int) < max (n0 : Int) (n1 : Int) := by omega
      go_upto_region 14 with fail
      go_cut [64] (fun c wx => ∃ z, c = .bool z ∧ wr = wx ∧ (z = true → HasOp w1 a0 os0 k))
      case first =>
        by_cases h0 : k < n0
        · obtain ⟨b0, o0, x, ha0, hx0, hin, hat⟩ := HO0.out.at_ (i := k) (by rw [← HN0.out]; exact h0)
          subst ha0
          have HH := Lib.hid (show HasOp w1 (some ⟨b0, o0, none⟩) os0 k from ⟨b0, o0, x, rfl, by rw [← HN0.out]; exact h0, hin, hat⟩)
          obtain ⟨c0, c1, c2, c3⟩ := hat.new HW.out.chg
          clear c1 c2 c3 hx0 hin
          obtain ⟨xk, xa, xn, xs⟩ := x
          simp only at c0
          by_cases hx : xk = 0
          · subst hx
            go_wp2_with fail
            go_meet
            case rel => exact ⟨true, rfl, rfl, fun _ => HH.out⟩
          · have hx' : (xk == 0) = false := by simpa using hx
            go_wp2_with fail
            go_meet
            case rel => exact ⟨false, rfl, rfl, fun h => by cases h⟩
        · go_wp2_with fail
          go_meet
          case rel => exact ⟨false, rfl, rfl, fun h => by cases h⟩
      case rest =>
      obtain ⟨z, rfl, rfl, hz⟩ := hcut
      have HZ := Lib.hid hz
      clear hz
      go_upto_if 64 with fail
      go_cut [10] (fun p10 wx => ∃ A', p10 = .string A' ∧ Two w1 wx a bb d (4 * k + 4) A')
      case first =>
        cases z
        · go_wp2_with fail
          go_meet
          case rel => exact ⟨A, rfl, HW.out.more (by omega)⟩
        · obtain ⟨b0, o0, x, rfl, h0, hin, hat⟩ := HZ.out rfl
          rw [← HN0.out] at h0
          have hsz := HR0.out x hin
          have HAT := Lib.hid hat.c3
          obtain ⟨c0, c1, c2, c3⟩ := hat.new HW.out.chg
          clear c0 c1 c2 hin hat
          obtain ⟨xk, xa, xn, xs⟩ := x
          simp only at c3 hsz
          have HAP := Lib.hid (two_append_a HW.out (by omega) xs hsz)
          go_wp2_with fail
          refine HAP.out.mono ?_
          rintro e w5 ⟨y, z, rfl, hor⟩
          rcases hor with ⟨rfl, rfl, hs16, htw⟩ | ⟨rfl, htw⟩
          · have HTW := Lib.hid htw
            have hc3 : w5.cell? ⟨b0, o0 + k * 4 + 3, none⟩ = some (.string xs) := HTW.out.chg.cell HAT.out (fun x => x)
            clear htw c3
            go_wp2_with fail
            go_meet
            case rel => exact ⟨A ++ xs, rfl, HTW.out⟩
          · have HTW := Lib.hid htw
            clear htw
            go_wp2_with fail
            go_meet
            case rel => exact ⟨A, rfl, HTW.out⟩
      case rest =>
      obtain ⟨A', rfl, htw⟩ := hcut
      have HW2 := Lib.hid htw
      have hsm2 := htw.small
      clear htw
      go_upto_if 93 with fail
      go_cut [8] (fun p8 wx => ∃ b', p8 = .pointer (some ⟨b', 0, none⟩) ∧ Two w1 wx a b' d (4 * k + 6) A')
      case first =>
        by_cases h1 : k < n1
        · obtain ⟨b1, o1, x, ha1, hx1, hin, hat⟩ := HO1.out.at_ (i := k) (by rw [← HN1.out]; exact h1)
          subst ha1
          have hsz := HR1.out x hin
          obtain ⟨c0, c1, c2, c3⟩ := hat.new HW2.out.chg
          clear c2 hx1 hin hat
          obtain ⟨xk, xa, xn, xs⟩ := x
          simp only at c0 c1 c3 hsz
          by_cases k0 : xk = 0
          · subst k0
            have HC := Lib.hid (two_append_b HW2.out (by omega) xs hsz)
            go_wp2_with fail
            refine HC.out.mono ?_
            rintro e w6 ⟨v6, rfl, htw⟩
            have HT6 := Lib.hid htw
            clear htw
            go_wp2_with fail
            go_meet
            case rel => exact ⟨bb, rfl, HT6.out⟩
          have q0 : (xk == 0) = false := by simpa using k0
          by_cases k2 : xk = 2
          · subst k2
            have HC := Lib.hid (two_sync_b HW2.out (by omega))
            clear q0 k0
            go_wp2_with fail
            refine HC.out.mono ?_
            rintro e w6 ⟨v6, rfl, htw⟩
            have HT6 := Lib.hid htw
            clear htw
            go_wp2_with fail
            go_meet
            case rel => exact ⟨bb, rfl, HT6.out⟩
          have q2 : (xk == 2) = false := by simpa using k2
          by_cases k3 : xk = 3
          · subst k3
            have HC := Lib.hid (two_cut_b HW2.out (by omega) xa)
            clear q0 k0 q2 k2
            go_wp2_with fail
            refine HC.out.mono ?_
            rintro e w6 ⟨v6, rfl, htw⟩
            have HT6 := Lib.hid htw
            clear htw
            go_wp2_with fail
            go_meet
            case rel => exact ⟨bb, rfl, HT6.out⟩
          have q3 : (xk == 3) = false := by simpa using k3
          by_cases k4 : xk = 4
          · subst k4
            have HC := Lib.hid (two_drop_b HW2.out (by omega))
            clear q0 k0 q2 k2 q3 k3
            go_wp2_with fail
            refine HC.out.mono ?_
            rintro e w6 ⟨v6, rfl, htw⟩
            have HT6 := Lib.hid htw
            clear htw
            go_wp2_with fail
            go_meet
            case rel => exact ⟨bb, rfl, HT6.out⟩
          have q4 : (xk == 4) = false := by simpa using k4
          by_cases k5 : xk = 5
          · subst k5
            have HC := Lib.hid (two_open_b HW2.out (by omega))
            clear q0 k0 q2 k2 q3 k3 q4 k4
            go_wp2_with fail
            refine HC.out.mono ?_
            rintro e w6 ⟨b6, rfl, htw⟩
            have HT6 := Lib.hid htw
            clear htw
            go_wp2_with fail
            go_meet
            case rel => exact ⟨b6, rfl, HT6.out⟩
          have q5 : (xk == 5) = false := by simpa using k5
          clear k0 k2 k3 k4 k5
          go_wp2_with fail
          go_meet
          case rel => exact ⟨bb, rfl, HW2.out.more (by omega)⟩
        · go_wp2_with fail
          go_meet
          case rel => exact ⟨bb, rfl, HW2.out.more (by omega)⟩
      case rest =>
      obtain ⟨b', rfl, htw⟩ := hcut
      have HW3 := Lib.hid htw
      have HB3 := Lib.hid (two_begin htw)
      have HE3 := Lib.hid (two_end htw)
      clear htw
      go_wp2_with fail
      refine HB3.out.mono ?_
      rintro e w7 ⟨rfl, rfl⟩
      go_wp2_with fail
      refine HE3.out.mono ?_
      rintro e w7 ⟨rfl, rfl⟩
      go_wp2_with fail
      go_roundg (max n0 n1 - (k + 1))
      case measure => omega
      case rel => exact ⟨k + 1, A', b', by omega, rfl, rfl, rfl, by go_num, HW3.out.more (by omega)⟩
    · have hkm : k = max n0 n1 := by omega
      have HOA := Lib.hid (two_open_a HW.out (by omega))
      have hltI : ¬ (k : Int) < max (n0 : Int) (n1 : Int) := by omega
      clear hkm
      go_wp2_with fail
      refine HOA.out.mono ?_
      rintro e w5 ⟨b5, rfl, hc5, d5, m5, hr5, hb5, he5⟩
      have HC5 := Lib.hid hc5
      have hB := rbegin_any b5 d5 m5 w5 hr5
      rw [hb5] at hB
      have hE := rend_any b5 d5 m5 w5 hr5
      rw [he5] at hE
      have HB := Lib.hid hB
      have HE := Lib.hid hE
      clear hB hE hc5 hr5 hb5 he5
      go_wp2_with fail
      refine HE.out.mono ?_
      rintro e w6 ⟨rfl, rfl⟩
      go_wp2_with fail
      refine HB.out.mono ?_
      rintro e w6 ⟨rfl, rfl⟩
      go_wp2_with fail
      go_ret
      exact ⟨rfl, HCW.out.trans HC5.out (fun _ _ x => x)⟩
theorem walkF_SegRows (v0 : Value) (os0 : List OpR) (v1 : Value) (os1 : List OpR) (w : World) (ht : Tab10 w) (h0 : OpsR w v0 os0) (l0 : os0.length ≤ maxLen) (r0 : ∀ x ∈ os0, x.s.size ≤ maxLen) (h1 : OpsR w v1 os1) (l1 : os1.length ≤ maxLen) (r1 : ∀ x ∈ os1, x.s.size ≤ maxLen) :
    Calls Tryz.prog 6 #[v0, v1] w (fun e w' => e = .returned (.bool true) ∧ Below w.heap.size w w') :=
  (walk_SegRows v0 v1 os0 os1 w ht h0 h1 l0 l1 r0 r1).mono fun e w' hh => ⟨hh.1, hh.2.below (fun _ _ e => e.elim) (Nat.le_refl _)⟩
end Go.Proofs.YtmjbbcokglnmjaaGreatDoor
