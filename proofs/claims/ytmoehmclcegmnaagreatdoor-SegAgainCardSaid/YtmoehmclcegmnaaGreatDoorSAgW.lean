/-
  The walk of SegAgain.
-/
import Derived.Test.YtmoehmclcegmnaaGreatDoorSAgAll
namespace Go.Proofs.YtmoehmclcegmnaaGreatDoor
open Go.RowKit Go.Deep
set_option linter.unusedVariables false
set_option linter.unusedSimpArgs false
attribute [local go_sem] fr_opt

def rB : ByteArray := ⟨#[114]⟩
/-- A law's end: true, and but for new memory all is as it was. -/
def Fine (w : World) (e : Ending) (w' : World) : Prop := e = .returned (.bool true) ∧ Chg (fun _ => False) w w'
/-- In the first loop. -/
def AgL (w1 : World) (b d : Nat) (n : Nat) (A : ByteArray) (safe : Nat) (w' : World) : Prop := ∃ g m st l, RowG w1 w' b g st m ∧ g.d = d ∧ m.head = rB ∧ AgI n m st l A.data.toList safe

set_option maxHeartbeats 8000000 in
set_option maxRecDepth 100000 in
theorem walk_SegAgain (v0 : Value) (ts : List ByteArray) (sy : Int) (vk : Value) (bs : List Bool) (lack : Int) (w : World) (ht : Tab10 w) (hs : Strs w 0 v0 ts) (hl : ts.length ≤ maxLen) (hb : BoolsOf w vk bs) (hbl : bs.length ≤ maxLen) (hsy0 : 0 ≤ sy) (hsy1 : sy ≤ 255) (hr : ∀ t ∈ ts, t.size ≤ maxLen) :
    Calls Tryz.prog 7 #[v0, .int .u8 sy, .agg #[vk, .int .i64 lack]] w (Fine w) := by
  obtain ⟨a0, cap0, hv0⟩ := hs.form
  obtain ⟨ak, ck, hvk, _⟩ := id hb
  obtain ⟨n, hn⟩ : ∃ n, n = ts.length := ⟨_, rfl⟩
  obtain ⟨nb, hnb⟩ : ∃ nb, nb = bs.length := ⟨_, rfl⟩
  rw [← hn] at hv0 hl
  rw [← hnb] at hvk hbl
  subst hv0 hvk
  unfold maxLen at hl hbl hr
  obtain ⟨P, hP⟩ : ∃ P, P = w.heap.size := ⟨_, rfl⟩
  obtain ⟨W0, hW0⟩ : ∃ W, W = w.alloc (.cells #[.slice ak nb ck, .int .i64 lack] 61) := ⟨_, rfl⟩
  have hc0 : Chg (fun _ => False) w W0 := hW0 ▸ Chg.alloc _ (Chg.refl _ _) _
  have hp0 : W0.cell? ⟨P, 0, none⟩ = some (.slice ak nb ck) := by rw [hW0, hP]; simp
  have hp1 : W0.cell? ⟨P, 1, none⟩ = some (.int .i64 lack) := by rw [hW0, hP]; simp
  have HAW := Lib.hid (awake_any W0 (tab_chg ht hc0))
  have HW0 := Lib.hid hW0
  have HC0 := Lib.hid hc0
  have HP0 := Lib.hid (And.intro hp0 hp1)
  have HT := Lib.hid ht
  have HS := Lib.hid hs
  have HB := Lib.hid hb
  have HN := Lib.hid hn
  have HNB := Lib.hid hnb
  have HPP := Lib.hid hP
  have HR := Lib.hid hr
  clear hc0 hp0 hp1 ht hs hb hn hnb hW0 hr hP
  go_enter Tryz.func7, Tryz.ntmps7
  go_wp2_with fail
  rw [← HW0.out, ← HPP.out]
  refine HAW.out.mono ?_
  rintro e w1 ⟨rfl, hc1⟩
  have hcw : Chg (fun _ => False) w w1 := HC0.out.trans hc1 (fun _ _ x => x)
  have hp0 := hc1.cell HP0.out.1 (fun x => x)
  have hp1 := hc1.cell HP0.out.2 (fun x => x)
  have HPC := Lib.hid (And.intro hp0 hp1)
  have HCW := Lib.hid hcw
  have HT1 := Lib.hid (tab_chg HT.out hcw)
  have HS1 : Hid (Strs w1 0 (.slice a0 n cap0) ts) := strs_below (B := 0) HS.out hcw
  have HB1 : Hid (BoolsOf w1 (.slice ak nb ck) bs) := HB.out.chg hcw (fun _ _ _ _ _ x => x)
  clear hc1 hcw hp1
  by_cases hn60 : 60 < n
  · go_wp2_with fail
    go_ret
    exact ⟨rfl, HCW.out⟩
  by_cases hnb100 : 100 < nb
  · go_wp2_with fail
    go_ret
    exact ⟨rfl, HCW.out⟩
  have hn61 : n ≤ 60 := by omega
  go_wp2_with fail
  refine (new_any 1048576 _).mono ?_
  rintro e w2 ⟨rfl, hd2, hb2⟩
  obtain ⟨d, hd⟩ : ∃ d, d = w1.heap.size := ⟨_, rfl⟩
  rw [← hd] at hd2 ⊢
  have hdg : DiskG w1 w2 d ⟨d, none, []⟩ (newSt 1048576) := ⟨hd2, rfl, Chg.of_below hb2, fun k hk => by simp [Gh.fp] at hk; omega⟩
  have hag0 := AgI.new rB (by decide) 1048576 rfl
  have HO := Lib.hid (ag_open hdg hag0 rfl (by decide) HT1.out)
  clear hd2 hb2 hdg hag0 hd hp0
  go_wp2_with fail
  refine HO.out.mono ?_
  rintro e w3 ⟨b, rfl, -, g3, hg3, hgd3, hag3, hh3⟩
  have HL0 : Hid (AgL w1 b d 0 ⟨#[]⟩ 0 w3) := ⟨g3, _, _, [], hg3, hgd3, hh3, hag3⟩
  clear HO hg3 hgd3 hag3 hh3
  go_wp2_with fail
  go_loopw [10, 11, 12, 13, 14, 15, 46] (fun sA sf _ _ _ _ i wr => ∃ (k : Nat) (A : ByteArray) (safe : Nat), k ≤ n ∧ i = .int .i64 k ∧ sA = .string A ∧ sf = .int .i64 safe ∧ A.size ≤ 16 * k ∧ AgL w1 b d (2 * k) A safe wr) (fun _ _ _ _ _ _ i _ => n - (intOf i).toNat)
  case atStart => exact ⟨0, ⟨#[]⟩, 0, Nat.zero_le _, rfl, rfl, rfl, Nat.zero_le _, HL0.out⟩
  case round =>
    obtain ⟨k, A, safe, hk, rfl, rfl, rfl, hAs, hagl⟩ := hrel
    have HAGL := Lib.hid hagl
    clear hagl HL0
    by_cases hlt : k < n
    · have hlt' : k < ts.length := by rw [← HN.out]; exact hlt
      obtain ⟨sb, so, rfl, hcell⟩ := (HN.out ▸ HS1.out : Strs w1 0 (.slice a0 n cap0) ts).cellAt hlt'
      obtain ⟨s, hs⟩ : ∃ s, s = ts.getD k ⟨#[]⟩ := ⟨_, rfl⟩
      rw [← hs] at hcell
      have hsm : s.size ≤ 9223372036854775807 := by
        have := HR.out s (by rw [hs, List.getD_eq_getElem?_getD, List.getElem?_eq_getElem hlt']; exact List.getElem_mem hlt')
        omega
      obtain ⟨g, m, st, l, hg, hgd, hh, hag⟩ := HAGL.out
      have hcell' := hg.chg.cell (p := ⟨sb, so + k, none⟩) hcell (fun x => x)
      have HG := Lib.hid hg
      have HAG := Lib.hid (And.intro hgd (And.intro hh hag))
      have HCK : Hid (((ts.length : Nat) : Int) = n) := by show _ = _; rw [HN.out]
      clear hg hgd hh hag hs hlt' hcell HAGL HCK
      by_cases hs16 : 16 < s.size
      · go_wp2_with fail
        go_ret
        exact ⟨rfl, HCW.out.trans HG.out.chg (fun _ _ x => x)⟩
      · have HAP := Lib.hid (ag_append HG.out HAG.out.1 HAG.out.2.1 HAG.out.2.2 (by omega) s (by omega))
        clear HG HAG
        go_wp2_with fail
        refine HAP.out.mono ?_
        rintro e w4 ⟨a, kk, rfl, hcase⟩
        have hwc : IntKind.i64.wrap sy = sy := IntWalk.i64_in _ (by omega)
        clear HAP hcell'
        rcases hcase with ⟨rfl, hto⟩ | ⟨rfl, hto⟩
        case' inl =>
          obtain ⟨A', hA'⟩ : ∃ A', A' = A ++ s := ⟨_, rfl⟩
          rw [← hA'] at hto
          have HTO := Lib.hid hto
          have HA' := Lib.hid hA'
          clear hto hA'
        case' inr =>
          obtain ⟨A', hA'⟩ : ∃ A', A' = A := ⟨_, rfl⟩
          rw [← hA'] at hto
          have HTO := Lib.hid hto
          have HA' := Lib.hid hA'
          clear hto hA'
        all_goals
          by_cases hks : (k : Int) = sy
          · have hksb : ((k : Int) == sy) = true := by simpa using hks
            obtain ⟨hA16, g', m', st', l', hg', hgd', hh', hag'⟩ := HTO.out
            have HA17 : Hid (A'.size ≤ 16 * (k + 1)) := Lib.hid (by first | (have hA18 : A'.size ≤ A.size + 16 := hA16; omega) | (have hA18 := congrArg ByteArray.size HA'.out; omega))
            have HSY := Lib.hid (ag_sync hg' hgd' hh' hag' (by omega))
            clear hks hg' hgd' hh' hag'
            go_wp2_with fail
            try rw [← HA'.out]
            refine HSY.out.mono ?_
            rintro e w5 ⟨rfl, g5, m5, st5, l5, hg5, hgd5, hh5, hag5⟩
            have HF := Lib.hid (show AgL w1 b d (2 * (k + 1)) A' A'.size w5 from ⟨g5, m5, st5, l5, hg5, hgd5, hh5, hag5⟩)
            clear hg5 hgd5 hh5 hag5 HSY HTO
            go_wp2_with fail
            refine ⟨⟨k + 1, A', A'.size, by omega, by go_num, by first | rfl | (rw [HA'.out]), by first | rfl | (rw [HA'.out]), HA17.out, HF.out⟩, by simp [intOf]; omega⟩
          · have hksb : ((k : Int) == sy) = false := by simpa using hks
            obtain ⟨hA16, g', m', st', l', hg', hgd', hh', hag'⟩ := HTO.out
            have HA17 : Hid (A'.size ≤ 16 * (k + 1)) := Lib.hid (by first | (have hA18 : A'.size ≤ A.size + 16 := hA16; omega) | (have hA18 := congrArg ByteArray.size HA'.out; omega))
            have HF := Lib.hid (show AgL w1 b d (2 * (k + 1)) A' safe w4 from ⟨g', m', st', l', hg', hgd', hh', hag'⟩)
            clear hks hg' hgd' hh' hag' HTO
            go_wp2_with fail
            refine ⟨⟨k + 1, A', safe, by omega, by go_num, by first | rfl | (rw [HA'.out]), rfl, HA17.out, HF.out⟩, by simp [intOf]; omega⟩
    · have hkn : k = n := by omega
      subst hkn
      obtain ⟨g, m, st, l, hg, hgd, hh, hag⟩ := HAGL.out
      have HD := Lib.hid (show DiskG w1 wr d g st from DiskG.of hg hgd)
      have HH := Lib.hid hh
      have HAG := Lib.hid hag
      clear hg hgd hh hag HAGL
      go_wp2_with fail
      have hA960 : A.size ≤ 960 := by omega
      go_loopw [16, 17, 18] (fun i _ _ wr => ∃ j : Nat, j ≤ 2 ∧ i = .int .i64 j ∧ ∃ g, DiskG w1 wr d g st) (fun i _ _ _ => 2 - (intOf i).toNat)
      case atStart => exact ⟨0, by omega, rfl, g, HD.out⟩
      case round =>
        obtain ⟨j, hj, rfl, g2, hd2⟩ := hrel
        have HD2 := Lib.hid hd2
        clear hd2 HD
        by_cases hj2 : j < 2
        · have HO := Lib.hid (ag_open HD2.out HAG.out HH.out (by omega) HT1.out)
          go_wp2_with fail
          refine HO.out.mono ?_
          rintro e w5 ⟨b5, rfl, -, g5, hg5, hgd5, hag5, hh5⟩
          have hB := rbegin_any b5 g5.d _ w5 hg5.row
          rw [hag5.beg] at hB
          have hE := rend_any b5 g5.d _ w5 hg5.row
          rw [hag5.end_, show A.data.toList.length = A.size from size_toList A] at hE
          have HBG := Lib.hid hB
          have HEN := Lib.hid hE
          have HD5 := Lib.hid (DiskG.of hg5 hgd5)
          clear hg5 hgd5 hag5 hh5 hB hE HO
          go_wp2_with fail
          refine HBG.out.mono ?_
          rintro e w6 ⟨rfl, rfl⟩
          go_wp2_with fail
          refine HEN.out.mono ?_
          rintro e w6 ⟨rfl, rfl⟩
          go_wp2_with fail
          exact ⟨⟨j + 1, by omega, by go_num, g5, HD5.out⟩, by simp [intOf]; omega⟩
        · have hj3 : j = 2 := by omega
          subst hj3
          obtain ⟨hp0, hp1⟩ := HPC.out
          have hq0 := HD2.out.chg.cell hp0 (fun x => x)
          have hq1 := HD2.out.chg.cell hp1 (fun x => x)
          have HCR := Lib.hid (ag_crash HD2.out HAG.out HH.out (by omega) (.slice ak nb ck) bs lack (HB1.out.chg HD2.out.chg (fun _ _ _ _ _ x => x)) (by rw [← HNB.out]; omega))
          clear hp0 hp1
          go_wp2_with fail
          refine HCR.out.mono ?_
          rintro e w7 ⟨rfl, g7, st7, hd7, hal⟩
          have HOA := Lib.hid (ag_again hd7 hal (by omega) HT1.out)
          clear hd7 hal HCR hq0 hq1 HD2
          go_wp2_with fail
          refine HOA.out.mono ?_
          rintro e w8 ⟨b8, rfl, g8, e1, x1, hg8, hgd8, hex, hxn, hdn, hlo⟩
          obtain ⟨st8, hst8⟩ : ∃ s, s = openS st7 rB 16 := ⟨_, rfl⟩
          rw [← hst8] at hg8 hdn hlo
          have hE := rend_any b8 g8.d _ w8 hg8.row
          obtain ⟨eI, heI⟩ : ∃ eI : Int, eI = (e1 : Int) := ⟨_, rfl⟩
          have HEN := Lib.hid (show Calls Tryz.prog 19 #[.pointer (some ⟨b8, 0, none⟩)] w8 fun e w' => e = .returned (.int .i64 eI) ∧ w8 = w' from heI ▸ hE)
          have hlow := hlo.low
          have hhigh := hlo.high
          rw [show A.data.toList.length = A.size from size_toList A] at hhigh
          have HG8 := Lib.hid hg8
          have HLO := Lib.hid hlo
          have HDN := Lib.hid hdn
          have HEX := Lib.hid (And.intro hex hxn)
          have HLH := Lib.hid (And.intro hlow hhigh)
          have HEI := Lib.hid heI
          have hI1 : ¬ eI < (safe : Int) := by omega
          have hI2 : ¬ (A.size : Int) < eI := by omega
          clear hE hg8 hgd8 hdn hlo HOA hst8 hex hxn hlow hhigh heI
          go_wp2_with fail
          refine HEN.out.mono ?_
          rintro e w9 ⟨rfl, rfl⟩
          go_wp2_with fail
          refine HEN.out.mono ?_
          rintro e w9 ⟨rfl, rfl⟩
          go_wp2_with fail
          clear HEN hI1 hI2
          go_loopw [6, 21, 22, 23, 24, 140] (fun _ p _ _ _ _ wr => ∃ i : Nat, p = .int .i64 (16 * i : Nat) ∧ 16 * i ≤ e1 + 16 ∧ RowG w1 wr b8 g8 st8 (rowS rB e1 x1)) (fun _ p _ _ _ _ _ => 1000 - (intOf p).toNat)
          case atStart => exact ⟨0, rfl, by omega, HG8.out⟩
          case round =>
            obtain ⟨i, rfl, hi, hgr⟩ := hrel
            have HGR := Lib.hid hgr
            have hE := rend_any b8 g8.d _ wr hgr.row
            have heI := HEI.out
            have HEN := Lib.hid (show Calls Tryz.prog 19 #[.pointer (some ⟨b8, 0, none⟩)] wr fun e w' => e = .returned (.int .i64 eI) ∧ wr = w' from heI ▸ hE)
            clear hgr hE HG8
            by_cases hie : 16 * i < e1
            · obtain ⟨hlow, hhigh⟩ := HLH.out
              obtain ⟨c, hf, hcl, hcb⟩ := HLO.out.file i hie
              have hlr : leftR (rowS rB e1 x1) ((16 * i : Nat) : Int) = (c.bytes.length : Int) := by
                unfold leftR rowS
                simp only
                rw [if_neg (by omega)]
                omega
              have hcp : 0 < c.bytes.length := by omega
              have hL := rleft_any b8 g8.d (rowS rB e1 x1) ((16 * i : Nat) : Int) wr HGR.out.row (by show (0 : Int) ≤ 0; omega) (by show (e1 : Int) ≤ _; omega) (by show (16 : Int) ≤ 16; omega) (by show (16 : Int) ≤ 4096; omega)
              rw [hlr] at hL
              obtain ⟨t, ht⟩ : ∃ t : ByteArray, t = ⟨c.bytes.toArray⟩ := ⟨_, rfl⟩
              have htl : t.data.toList = c.bytes := by rw [ht]
              have hts : t.size = c.bytes.length := by rw [← htl, size_toList]
              have hRd : ∀ W, RowG w1 W b8 g8 st8 (rowS rB e1 x1) → Calls Tryz.prog 13 #[.pointer (some ⟨b8, 0, none⟩), .int .i64 (16 * i : Nat), .int .i64 (t.size : Nat)] W fun e w' => e = .returned (.tuple #[.string t, .int .i64 0]) ∧ Below W.heap.size W w' := fun W hW => by
                have := rread_ok w1 b8 g8 st8 (rowS rB e1 x1) (16 * i) c.bytes.length (16 * i) c W hW HDN.out (by show (0 : Int) ≤ 0; omega) (by show (e1 : Int) ≤ _; omega) (by show (16 : Int) ≤ 16; omega) (by show (16 : Int) ≤ 4096; omega) (by show rB.size ≤ 1048576; decide) hcp (by rw [hlr]; exact Int.le_refl _) (by show _ = _ - _ % (16 : Int); omega) hf (by omega) (by omega)
                rw [Nat.sub_self, List.drop_zero, List.take_length, ← ht, ← hts] at this
                exact this
              rw [← hts] at hL hcl hcp
              have hget : ∀ j, j < t.size → t.data.toList[j]? = A.data.toList[16 * i + j]? ∨ (safe ≤ 16 * i + j ∧ t.data.toList[j]? = some 0) := fun j hj => by rw [htl]; exact hcb j (by omega)
              have HL := Lib.hid hL
              have HRD := Lib.hid hRd
              have HGET := Lib.hid hget
              have htA : 16 * i + t.size ≤ A.size := by omega
              have ht16 : t.size ≤ 16 := by omega
              have hieI : 16 * (i : Int) < eI := by omega
              clear hf hcb hlr hL hRd hget htl ht hts hcl hlow hhigh hie heI
              go_wp2_with fail
              refine HEN.out.mono ?_
              rintro e w9 ⟨rfl, rfl⟩
              go_wp2_with fail
              refine HL.out.mono ?_
              rintro e w9 ⟨rfl, q, rfl⟩
              go_wp2_with fail
              refine (HRD.out _ (HGR.out.drewN q)).mono ?_
              rintro e w10 ⟨rfl, hb10⟩
              have HG10 : Hid (RowG w1 w10 b8 g8 st8 (rowS rB e1 x1)) := Lib.hid ((HGR.out.drewN q).new (Chg.of_below (S := fun _ => False) hb10))
              clear hb10 HRD HL HEN
              go_wp2_with fail
              go_loopw [6, 24, 140] (fun _ _ u wr => ∃ j : Nat, j ≤ t.size ∧ u = .int .i64 j ∧ RowG w1 wr b8 g8 st8 (rowS rB e1 x1)) (fun _ _ u _ => 20 - (intOf u).toNat)
              case atStart => exact ⟨0, Nat.zero_le _, rfl, HG10.out⟩
              case round =>
                obtain ⟨j, hj, rfl, hgj⟩ := hrel
                have HGJ := Lib.hid hgj
                clear hgj HG10
                by_cases hjt : j < t.size
                · have hjA : 16 * i + j < A.size := by omega
                  have hx := HGET.out j hjt
                  have e1 : t.data.toList[j]? = some (t[j]'hjt) := by rw [Array.getElem?_toList]; exact Array.getElem?_eq_getElem hjt
                  have e2 : A.data.toList[16 * i + j]? = some (A[16 * i + j]'hjA) := by rw [Array.getElem?_toList]; exact Array.getElem?_eq_getElem hjA
                  rw [e1, e2] at hx
                  have hx2 : t[j]'hjt = A[16 * i + j]'hjA ∨ (safe ≤ 16 * i + j ∧ t[j]'hjt = 0) := by
                    rcases hx with hx | ⟨h1, h2⟩
                    · exact .inl (Option.some.inj hx)
                    · exact .inr ⟨h1, Option.some.inj h2⟩
                  obtain ⟨x, hxt⟩ : ∃ x, x = t[j]'hjt := ⟨_, rfl⟩
                  obtain ⟨y, hyA⟩ : ∃ y, y = A[16 * i + j]'hjA := ⟨_, rfl⟩
                  have hit : ∀ W, (Instr.index 9 (.string t) (.int .i64 (j : Int))).run Tryz.prog W = .ok (.int .u8 (x.toNat : Int)) W := fun W => by
                    rw [run_index_string W 9 t .i64 (j : Int) Tryz.underlying9, dif_pos ⟨by omega, by omega⟩, hxt]
                    rfl
                  have hiA : ∀ W, (Instr.index 9 (.string A) (.int .i64 (16 * (i : Int) + (j : Int)))).run Tryz.prog W = .ok (.int .u8 (y.toNat : Int)) W := fun W => by
                    rw [run_index_string W 9 A .i64 (16 * (i : Int) + (j : Int)) Tryz.underlying9, dif_pos ⟨by omega, by omega⟩, hyA]
                    have e3 : (16 * (i : Int) + (j : Int)).toNat = 16 * i + j := by omega
                    simp only [e3]
                  rw [← hxt, ← hyA] at hx2
                  have hwj : IntKind.i64.wrap (16 * (i : Int) + (j : Int)) = 16 * (i : Int) + (j : Int) := IntWalk.i64_in _ (by omega)
                  clear hx e1 e2 hxt hyA
                  by_cases hxy : x = y
                  · have hb1 : ((x.toNat : Int) != (y.toNat : Int)) = false := by rw [hxy]; simp
                    clear hx2 hxy
                    go_wp2_with fail
                    go_quiet (fail)
                    go_wp2_with fail
                    exact ⟨⟨j + 1, by omega, by go_num, HGJ.out.drewN _⟩, by simp [intOf]; omega⟩
                  · have hb1 : ((x.toNat : Int) != (y.toNat : Int)) = true := by
                      have : x.toNat ≠ y.toNat := fun h => hxy (UInt8.toNat_inj.1 h)
                      simp; omega
                    obtain ⟨hsf, hx0⟩ : safe ≤ 16 * i + j ∧ x = 0 := by
                      rcases hx2 with h | h
                      · exact absurd h hxy
                      · exact h
                    have hxn : (x.toNat : Int) = 0 := by rw [hx0]; rfl
                    rw [hxn] at hb1
                    have hit0 : ∀ W, (Instr.index 9 (.string t) (.int .i64 (j : Int))).run Tryz.prog W = .ok (.int .u8 0) W := fun W => by
                      rw [hit W, hxn]
                    have hnsf : ¬ 16 * (i : Int) + (j : Int) < (safe : Int) := by omega
                    clear hx2 hxy hsf hit hxn hx0
                    go_wp2_with fail
                    go_quiet (fail)
                    go_wp2_with fail
                    exact ⟨⟨j + 1, by omega, by go_num, HGJ.out.drewN _⟩, by simp [intOf]; omega⟩
                · go_wp2_with fail
                  have heI := HEI.out
                  have hlh := HLH.out
                  refine ⟨⟨i + 1, by go_num, by omega, HGJ.out⟩, by simp [intOf]; omega⟩
            · have hieI : ¬ 16 * (i : Int) < eI := by omega
              clear heI hie
              go_wp2_with fail
              refine HEN.out.mono ?_
              rintro e w9 ⟨rfl, rfl⟩
              go_wp2_with fail
              go_ret
              exact ⟨rfl, HCW.out.trans HGR.out.chg (fun _ _ x => x)⟩
theorem walkF_SegAgain (v0 : Value) (ts : List ByteArray) (sy : Int) (vk : Value) (bs : List Bool) (lack : Int) (w : World) (ht : Tab10 w) (hs : Strs w 0 v0 ts) (hl : ts.length ≤ maxLen) (hr : ∀ t ∈ ts, t.size ≤ maxLen) (hsy : (Lit.int .u8 sy).wf = true) (hb : BoolsOf w vk bs) (hbl : bs.length ≤ maxLen) :
    Calls Tryz.prog 7 #[v0, .int .u8 sy, .agg #[vk, .int .i64 lack]] w (fun e w' => e = .returned (.bool true) ∧ Below w.heap.size w w') := by
  have h8 : 0 ≤ sy ∧ sy ≤ 255 := by
    have h2 : IntKind.u8.min ≤ sy ∧ sy ≤ IntKind.u8.max := by simpa [Lit.wf] using hsy
    exact h2
  exact (walk_SegAgain v0 ts sy vk bs lack w ht hs hl hb hbl h8.1 h8.2 hr).mono fun e w' hh => ⟨hh.1, hh.2.below (fun _ _ e => e.elim) (Nat.le_refl _)⟩
end Go.Proofs.YtmoehmclcegmnaaGreatDoor
