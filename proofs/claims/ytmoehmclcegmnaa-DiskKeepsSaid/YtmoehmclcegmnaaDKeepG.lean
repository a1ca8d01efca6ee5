/-
  The walk of DiskKeeps.
-/
import Derived.Test.YtmoehmclcegmnaaDKeepW
import Derived.Laws.OwnMore
import Derived.Deep.OwnRows
namespace Go.Proofs.Ytmoehmclcegmnaa
open Go.RowKit Go.Deep
attribute [local go_sem] fr_opt

theorem two_start {w w1 w2 : World} {c : Int} (h1 : NewTo c w (.returned (.pointer (some ⟨w.heap.size, 0, none⟩))) w1) (h2 : NewTo c w1 (.returned (.pointer (some ⟨w1.heap.size, 0, none⟩))) w2) :
    Two w w2 w.heap.size w1.heap.size ⟨w.heap.size, none, []⟩ ⟨w1.heap.size, none, []⟩ (newSt c) (newSt c) := by
  obtain ⟨_, hd1, hb1⟩ := h1
  obtain ⟨_, hd2, hb2⟩ := h2
  have hl : w.heap.size < w1.heap.size := hd1.lt _ (by simp [Gh.fp])
  refine ⟨hd1.new (Chg.of_below hb2), hd2, rfl, rfl, fun k hk hx => ?_, (Chg.of_below hb1).trans (Chg.of_below hb2) (fun _ _ x => x), fun k hk => ?_, fun k hk => ?_⟩
  · simp [Gh.fp] at hk hx
    omega
  · simp [Gh.fp] at hk
    omega
  · simp [Gh.fp] at hk
    omega
theorem bools_to {w w' : World} {g g' : Gh} {v : Value} {bs : List Bool} (hs : BoolsOf w v bs) (ho : Out g v) (ht : Gh.To w g g' w') : BoolsOf w' v bs := by
  obtain ⟨a, cap, rfl, h⟩ := hs
  refine ⟨a, cap, rfl, ?_⟩
  rcases h with h | ⟨b, o, rfl, h⟩
  · exact .inl h
  · exact .inr ⟨b, o, rfl, fun i hi => ht.chg.cell (h i hi) (ho b o _ _ rfl (by omega))⟩
theorem strs_chg {w w' : World} {v : Value} {ts : List ByteArray} (hs : Strs w 0 v ts) (hc : Chg (fun _ => False) w w') : Strs w' 0 v ts := by
  obtain ⟨a, cap, h1, h2⟩ := hs
  refine ⟨a, cap, h1, ?_⟩
  rcases h2 with h2 | ⟨b, of, h3, h4, h5⟩
  · exact .inl h2
  · exact .inr ⟨b, of, h3, h4, fun i hi => hc.cell (h5 i hi) (fun x => x)⟩
theorem made_bools : ∃ M : Array Value, (∀ W : World, (Instr.makeSlice 32 (.int .i64 200) (.int .i64 200)).run Try.prog W = .ok (.slice (some ⟨W.heap.size, 0, none⟩) 200 200) (W.alloc (.cells M 4))) ∧
    ∀ W : World, (W.alloc (.cells M 4)).rowIs W.heap.size 4 200 (fun _ => .bool false) :=
  ⟨madeCells #[.bool false] 200, fun W => run_make_row' (P := Try.prog) 32 4 (.bool false) 1 Try.underlying32 (by kernel_rfl) rfl .i64 .i64 200 (by omega) (by omega) W, fun W => World.rowIs_made W (.bool false) 200 4⟩
theorem bl_of {w : World} {K : Nat} {g1 g2 : Gh} (h : w.rowIs K 4 200 (fun i => .bool (decide (i < 200)))) (ho : K ∉ g1.fp ∧ K ∉ g2.fp) : Bl w K g1 g2 :=
  ⟨fun i hi => by have := h.cell hi; rw [this]; simp [hi], ho.1, ho.2, h.lt⟩
def Pair (w0 w : World) (d1 d2 : Nat) (n : Nat) : Prop := ∃ g1 g2 st, Two w0 w d1 d2 g1 g2 st st ∧ KeepOk n st

set_option maxHeartbeats 4000000 in
set_option maxRecDepth 100000 in
theorem walk_DiskKeeps (v : Value) (os : List OpM) (w : World) (h : OpsAt w v os) (hl : os.length ≤ maxLen)
    (hm : ∀ x ∈ os, x.at_ ≤ 9223372036854775807 ∧ LowV w x.vn ∧ LowV w x.vk) :
    Calls Try.prog 4 #[v] w (RoomTo w) := by
  obtain ⟨a, cap, hv, hcells⟩ := id h
  obtain ⟨n, hn⟩ : ∃ n, n = os.length := ⟨_, rfl⟩
  rw [← hn] at hv
  subst hv
  have HN := Lib.hid hn
  have HC := Lib.hid hcells
  have HO := Lib.hid h
  have HM := Lib.hid hm
  clear hn hcells h hm
  go_enter Try.func4, Try.ntmps4
  go_wp2_with (go_at_call 6; refine (awake_any _).mono ?_; rintro e w1 ⟨rfl, hc1⟩)
  have HC1 := Lib.hid hc1
  clear hc1
  go_wp2_with (go_at_call 7; refine (great_any _ os _ (HO.out.new (by first | exact HC1.out | exact HC1.out.drew)) hl).mono ?_)
  rintro e w2 ⟨b, rfl, hc2, hsm⟩
  cases b with
  | true =>
    go_wp2_with fail
    go_ret
    exact ⟨rfl, HC1.out.trans hc2 (fun _ _ x => x)⟩
  | false =>
    obtain ⟨h100, hsmall⟩ := hsm rfl
    have hn100 : n ≤ 100 := by rw [HN.out]; exact h100
    have HSM := Lib.hid hsmall
    have hcw : Chg (fun _ => False) w w2 := HC1.out.trans hc2 (fun _ _ x => x)
    have HCW := Lib.hid hcw
    clear hsmall hsm hc2 hcw h100
    go_wp2_with fail
    refine (new_any 100000 _).mono ?_
    rintro e w3 hn1
    have he1 := hn1.1
    subst he1
    have HN1 := Lib.hid hn1
    clear hn1
    go_wp2_with fail
    refine (new_any 100000 _).mono ?_
    rintro e w4 hn2
    have he2 := hn2.1
    subst he2
    have ht := two_start HN1.out hn2
    obtain ⟨d1, hd1⟩ : ∃ d, d = w2.heap.size := ⟨_, rfl⟩
    obtain ⟨d2, hd2⟩ : ∃ d, d = w3.heap.size := ⟨_, rfl⟩
    have HP0 : Hid (Pair w2 w4 d1 d2 0) := ⟨_, _, _, by rw [hd1, hd2]; exact ht, keep_new 100000⟩
    rw [← hd1, ← hd2]
    clear hn2 ht HN1 hd1 hd2
    go_wp2_with fail
    go_loopw [6, 19] (fun _ i wr => ∃ k : Nat, k ≤ n ∧ i = .int .i64 k ∧ Pair w2 wr d1 d2 k) (fun _ i _ => n - (intOf i).toNat)
    case atStart => exact ⟨0, Nat.zero_le _, rfl, HP0.out⟩
    case round =>
      obtain ⟨k, hk, rfl, g1, g2, st, htw, hkp⟩ := hrel
      have HTW := Lib.hid htw
      have HKP := Lib.hid hkp
      clear htw hkp
      by_cases hlt : k < n
      · obtain ⟨x, hx⟩ : ∃ x, os[k]? = some x := ⟨_, List.getElem?_eq_getElem (by rw [← HN.out]; exact hlt)⟩
        have hxm := List.mem_of_getElem? hx
        have hsx := HSM.out x hxm
        have hmx := HM.out x hxm
        have hcr : Chg (fun _ => False) w wr := HCW.out.trans HTW.out.chg (fun _ _ x => x)
        obtain ⟨b, o, ha, hat⟩ : ∃ b o, a = some ⟨b, o, none⟩ ∧ OpAt wr b (o + k * 8) x := by
          rcases HC.out with h0 | ⟨b, o, h1, h2⟩
          · rw [h0] at hx; cases hx
          · exact ⟨b, o, h1, (h2 k x hx).new hcr⟩
        subst ha
        have HSX := Lib.hid hsx
        have HMX := Lib.hid hmx
        clear hx hxm hsx hmx hcr
        obtain ⟨kd, at_, nm, to_, data, vn, names, vk, bs, lack⟩ := x
        obtain ⟨c0, c1, c2, c3, c4, c5, c6, c7, hst, hbo⟩ := hat
        simp only at c0 c1 c2 c3 c4 c5 c6 c7 hst hbo
        obtain ⟨an, cn, hvn⟩ := hst.form
        obtain ⟨ak, ck, hvk, _⟩ := id hbo
        obtain ⟨nn, hnn⟩ : ∃ k, k = names.length := ⟨_, rfl⟩
        obtain ⟨nk, hnk⟩ : ∃ k, k = bs.length := ⟨_, rfl⟩
        rw [← hnn] at hvn
        rw [← hnk] at hvk
        subst hvn
        subst hvk
        clear hnn hnk
        obtain ⟨W1, hW1⟩ : ∃ W, W = wr.alloc (.cells #[.int .i64 kd, .int .i64 at_, .string nm, .string to_, .string data, .slice an nn cn, .slice ak nk ck, .int .i64 lack] 36) := ⟨_, rfl⟩
        have hc1 : Chg (fun _ => False) wr W1 := hW1 ▸ Chg.alloc _ (Chg.refl _ _) _
        have HA1 : Hid (Two w2 W1 d1 d2 g1 g2 st st) := HTW.out.new hc1
        have HW1 := Lib.hid hW1
        have HST := Lib.hid (show Strs W1 0 (.slice an nn cn) names from by
          obtain ⟨a, cap, h1, h2⟩ := hst
          refine ⟨a, cap, h1, ?_⟩
          rcases h2 with h2 | ⟨b, of, h3, h4, h5⟩
          · exact .inl h2
          · exact .inr ⟨b, of, h3, h4, fun i hi => hc1.cell (h5 i hi) (fun x => x)⟩)
        have HBO := Lib.hid (hbo.chg hc1 (fun _ _ _ _ _ x => x))
        have HE0 : Hid (∀ W : World, (∀ (p : Addr) u, p.block = wr.heap.size → W1.cell? p = some u → W.cell? p = some u) → W.cell? ⟨wr.heap.size, 0, none⟩ = some (.int .i64 kd) ∧ W.cell? ⟨wr.heap.size, 1, none⟩ = some (.int .i64 at_) ∧ W.cell? ⟨wr.heap.size, 2, none⟩ = some (.string nm) ∧ W.cell? ⟨wr.heap.size, 3, none⟩ = some (.string to_) ∧ W.cell? ⟨wr.heap.size, 4, none⟩ = some (.string data) ∧ W.cell? ⟨wr.heap.size, 5, none⟩ = some (.slice an nn cn) ∧ W.cell? ⟨wr.heap.size, 6, none⟩ = some (.slice ak nk ck) ∧ W.cell? ⟨wr.heap.size, 7, none⟩ = some (.int .i64 lack)) := fun W hW => by
          refine ⟨hW _ _ rfl ?_, hW _ _ rfl ?_, hW _ _ rfl ?_, hW _ _ rfl ?_, hW _ _ rfl ?_, hW _ _ rfl ?_, hW _ _ rfl ?_, hW _ _ rfl ?_⟩ <;> (rw [HW1.out]; simp)
        have HLT : Hid (wr.heap.size ∉ g1.fp ∧ wr.heap.size ∉ g2.fp) := ⟨fun hx => (by have := HTW.out.a.lt _ hx; omega), fun hx => (by have := HTW.out.b.lt _ hx; omega)⟩
        clear hc1 hW1 hst hbo
        by_cases h5 : kd < 6
        · obtain ⟨f0, f1, f2, f3, f4, f5, f6, f7⟩ := HE0.out W1 (fun _ _ _ h => h)
          have hdo := two_do (o := ⟨kd, at_, nm, to_, data, .slice an nn cn, names, .slice ak nk ck, bs, lack⟩) HA1.out HKP.out (by omega) (by show kd ≤ 5; omega) HSX.out HMX.out HCW.out.size HST.out HBO.out
          unfold OpM.val at hdo
          simp only at hdo
          have HDO := Lib.hid hdo
          clear hdo
          go_wp2_with fail
          rw [← HW1.out]
          refine HDO.out.mono ?_
          rintro e Wa ⟨z, rfl, ga, hta, hto⟩
          obtain ⟨f0, f1, f2, f3, f4, f5, f6, f7⟩ := HE0.out Wa (fun p u hp h => hto.chg.cell h (hp ▸ HLT.out.1))
          have hout : ∀ v, LowV w v → Out g1 v := fun v hl b of len cap hv h0 hb => by
            have h1 := hl b of len cap hv h0
            have h2 := HA1.out.lowa b hb
            have h3 := HCW.out.size
            omega
          have hdo := two_do (o := ⟨kd, at_, nm, to_, data, .slice an nn cn, names, .slice ak nk ck, bs, lack⟩) hta.swap HKP.out (by omega) (by show kd ≤ 5; omega) HSX.out HMX.out HCW.out.size (strs_to HST.out (hout _ HMX.out.2.1) hto) (bools_to HBO.out (hout _ HMX.out.2.2) hto)
          unfold OpM.val at hdo
          simp only at hdo
          have HDO2 := Lib.hid hdo
          clear hdo hta hto hout HDO c0 c1 c2 c3 c4 c5 c6 c7
          go_wp2_with fail
          refine HDO2.out.mono ?_
          rintro e Wb ⟨z2, rfl, gb, htb, _⟩
          have HTB := Lib.hid htb.swap
          clear htb f0 f1 f2 f3 f4 f5 f6 f7
          have HKO := Lib.hid (HKP.out.doS ⟨kd, at_, nm, to_, data, .slice an nn cn, names, .slice ak nk ck, bs, lack⟩ (by show kd ≤ 5; omega) HMX.out.1 HSX.out)
          go_wp2_with fail
          exact ⟨⟨k + 1, by omega, by go_num, ga, gb, _, HTB.out, HKO.out⟩, by simp [intOf]; omega⟩
        · go_wp2_with fail
          exact ⟨⟨k + 1, by omega, by go_num, g1, g2, st, (by rw [← HW1.out]; exact HA1.out), ⟨HKP.out.good.more (Nat.le_succ _), HKP.out.lit, HKP.out.down, HKP.out.turns, Nat.le_succ_of_le HKP.out.waits, HKP.out.names⟩⟩, by simp [intOf]; omega⟩
      · have hk1 : k ≤ 1048576 := by omega
        have hS := two_same HTW.out (same_self st) HKP.out.names
        have HS := Lib.hid hS
        clear hS
        go_wp2_with fail
        refine HS.out.mono ?_
        rintro e Wa ⟨rfl, hca⟩
        have hta := HTW.out.new hca
        have HTA := Lib.hid hta
        clear hta hca HS
        go_wp2_with fail
        refine (two_waits HTA.out HKP.out.good hk1).mono ?_
        rintro e Wb ⟨rfl, hcb⟩
        have HTB := Lib.hid (HTA.out.new hcb)
        clear hcb HTA
        go_wp2_with fail
        refine (two_waits HTB.out.swap HKP.out.good hk1).mono ?_
        rintro e Wc ⟨rfl, hcc⟩
        have HTC := Lib.hid (HTB.out.new hcc)
        clear hcc HTB
        obtain ⟨M, hmk, hrow0⟩ := made_bools
        have HR0 := Lib.hid (hrow0 Wc)
        clear hrow0
        go_wp2_with fail
        obtain ⟨K, hK⟩ : ∃ K, K = Wc.heap.size := ⟨_, rfl⟩
        rw [← hK]
        rw [← hK] at HR0
        have HK := Lib.hid hK
        have hKa : K ∉ g1.fp := fun hx => (by have := HTC.out.a.lt _ hx; omega)
        have hKb : K ∉ g2.fp := fun hx => (by have := HTC.out.b.lt _ hx; omega)
        have HKA := Lib.hid (And.intro hKa hKb)
        clear hmk hK hKa hKb
        go_loopw [8, 47] (fun _ i ws => ∃ j : Nat, j ≤ 200 ∧ i = .int .i64 j ∧ ws.rowIs K 4 200 (fun i => .bool (decide (i < j))) ∧ Chg (fun _ => False) Wc ws) (fun _ i _ => 200 - (intOf i).toNat)
        case atStart => exact ⟨0, Nat.zero_le _, rfl, HR0.out.congr fun i _ => by simp, Chg.alloc _ (Chg.refl _ _) _⟩
        case round =>
          obtain ⟨j, hj, rfl, hrow, hcj⟩ := hrel
          have HROW := Lib.hid hrow
          have HCJ := Lib.hid hcj
          clear hrow hcj
          by_cases hj2 : j < 200
          · have hcell := HROW.out.cell hj2
            have hfree := HROW.out.frozen j
            go_wp2_with fail
            refine ⟨⟨j + 1, by omega, by go_num, (HROW.out.set j _).congr fun i _ => ?_, Chg.setCell HCJ.out (fun hx => (by have := HK.out; simp only at hx; omega)) _⟩, by simp [intOf]; omega⟩
            by_cases hij : i = j
            · subst hij; simp
            · rw [if_neg hij]
              have : decide (i < j) = decide (i < j + 1) := by
                by_cases h1 : i < j
                · simp [h1, Nat.lt_succ_of_lt h1]
                · have h2 : ¬ i < j + 1 := by omega
                  simp [h1, h2]
              rw [this]
          · obtain rfl : j = 200 := by omega
            have HTD := Lib.hid (HTC.out.new HCJ.out)
            have HBD := Lib.hid (bl_of HROW.out HKA.out)
            clear HROW HCJ HTC
            go_wp2_with fail
            refine (two_keep HTD.out HKP.out (by omega) HBD.out).mono ?_
            rintro e We ⟨rfl, ga, hte, hbe⟩
            have HTE := Lib.hid hte
            have HBE := Lib.hid hbe
            have HWG := Lib.hid (whole_good HKP.out)
            clear hte hbe
            go_wp2_with fail
            refine (two_same HTE.out (same_whole st) (fun p hp => by
              obtain ⟨q, hq, rfl⟩ := List.mem_map.1 (show p ∈ st.fs.map whole from hp)
              exact HKP.out.names q hq)).mono ?_
            rintro e Wf ⟨rfl, hc⟩
            have HTF := Lib.hid (HTE.out.new hc)
            have HBF := Lib.hid (HBE.out.new hc)
            have hw := two_waits HTF.out HWG.out hk1
            rw [whole_waits] at hw
            have HW := Lib.hid hw
            clear hc hw HTE HBE
            go_wp2_with fail
            refine HW.out.mono ?_
            rintro e Wg ⟨rfl, hc⟩
            have HTG := Lib.hid (HTF.out.new hc)
            have HBG := Lib.hid (HBF.out.new hc)
            clear hc HW HTF HBF
            go_wp2_with fail
            refine (two_size HTG.out.swap).mono ?_
            rintro e Wh ⟨rfl, hc⟩
            have HTH := Lib.hid (HTG.out.new hc)
            have HBH := Lib.hid (HBG.out.new hc)
            clear hc HTG HBG
            go_wp2_with fail
            refine (two_lose HTH.out.swap HKP.out.good hk1 HBH.out.swap).mono ?_
            rintro e Wi ⟨rfl, gb, hti, hbi, hgi⟩
            have HTI := Lib.hid hti
            have HBI := Lib.hid hbi
            have HGI := Lib.hid hgi
            clear hti hbi hgi HTH HBH
            go_wp2_with fail
            refine (two_list HTI.out.swap HWG.out hk1).mono ?_
            rintro e Wj ⟨va, rfl, hva, hc⟩
            have HTJ := Lib.hid (HTI.out.new hc)
            have HBJ := Lib.hid (HBI.out.new hc)
            have HVA := Lib.hid hva
            clear hc hva HTI HBI
            go_wp2_with fail
            refine (two_list HTJ.out HGI.out hk1).mono ?_
            rintro e Wk ⟨vb, rfl, hvb, hc⟩
            have HTK := Lib.hid (HTJ.out.new hc)
            have HBK := Lib.hid (HBJ.out.new hc)
            have hS := refSame_any va vb _ _ Wk (strs_chg HVA.out hc) hvb (by rw [sortedN_length]; have := HWG.out.len; omega)
            rw [decide_eq_true (sortedN_eq (by rw [whole_names, lost_names]))] at hS
            have HS := Lib.hid hS
            clear hc hvb hS HVA HTJ HBJ
            go_wp2_with fail
            refine HS.out.mono ?_
            rintro e Wl ⟨rfl, kl, rfl⟩
            have hc : Chg (fun _ => False) Wk (Wk.drewN kl) := (Chg.refl _ _).drewN _
            have HTL := Lib.hid (HTK.out.new hc)
            have HBL := Lib.hid (HBK.out.new hc)
            have hle := lost_size HKP.out.good
            have hz := two_size HTL.out
            obtain ⟨z, hzz⟩ : ∃ z, z = (lostS st).size := ⟨_, rfl⟩
            rw [← hzz] at hle hz
            have HZ := Lib.hid hz
            have HZZ := Lib.hid hzz
            obtain ⟨y, hy⟩ : ∃ y, y = st.size := ⟨_, rfl⟩
            clear hc hz hzz HS HTK HBK
            go_wp2_with fail
            refine HZ.out.mono ?_
            rintro e Wm ⟨rfl, hc⟩
            have HTM := Lib.hid (HTL.out.new hc)
            have HBM := Lib.hid (HBL.out.new hc)
            have hz := two_size HTM.out
            rw [← HZZ.out] at hz
            have HZ := Lib.hid hz
            clear hc hz HTL HBL
            go_wp2_with fail
            refine HZ.out.mono ?_
            rintro e Wn ⟨rfl, hc⟩
            have HTN := Lib.hid (HTM.out.new hc)
            have HBN := Lib.hid (HBM.out.new hc)
            clear hc HTM HBM HZ hle
            go_wp2_with fail
            refine (two_again HTN.out HGI.out hk1 HBN.out (lost_writes st)).mono ?_
            rintro e Wo ⟨rfl, gc, hto, hgo⟩
            have HTO := Lib.hid hto
            have HGO := Lib.hid hgo
            have hz := two_size hto
            rw [lost_again HGI.out, ← HZZ.out] at hz
            have HZ := Lib.hid hz
            clear hz hto hgo HTN HBN
            go_wp2_with fail
            refine HZ.out.mono ?_
            rintro e Wp ⟨rfl, hc⟩
            have HTP := Lib.hid (HTO.out.new hc)
            have hw := two_waits HTP.out HGO.out hk1
            rw [waits_zero (lost_writes _)] at hw
            have HW := Lib.hid hw
            clear hc hw HZ HTO
            go_wp2_with fail
            refine HW.out.mono ?_
            rintro e Wq ⟨rfl, hc⟩
            have HTQ := Lib.hid (HTP.out.new hc)
            clear hc HW HTP
            go_wp2_with fail
            go_ret
            exact ⟨rfl, HCW.out.trans HTQ.out.chg (fun _ _ x => x)⟩
theorem walkF_DiskKeeps (v : Value) (os : List OpM) (w : World) (h : OpsAt w v os) (hl : os.length ≤ maxLen)
    (hm : ∀ x ∈ os, x.at_ ≤ 9223372036854775807 ∧ LowV w x.vn ∧ LowV w x.vk) :
    Calls Try.prog 4 #[v] w (fun e w' => e = .returned (.bool true) ∧ Below w.heap.size w w') :=
  (walk_DiskKeeps v os w h hl hm).mono fun e w' hh => ⟨hh.1, hh.2.below (fun _ _ e => e.elim) (Nat.le_refl _)⟩
end Go.Proofs.Ytmoehmclcegmnaa
