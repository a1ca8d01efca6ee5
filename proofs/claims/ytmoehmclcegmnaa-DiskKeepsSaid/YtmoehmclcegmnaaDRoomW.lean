/-
  The walk of DiskRoom.
-/
import Derived.Test.YtmoehmclcegmnaaDRoomP
import Derived.Test.YtmoehmclcegmnaaDList
import Derived.Test.YtmoehmclcegmnaaDWaits
namespace Go.Proofs.Ytmoehmclcegmnaa
open Go.RowKit Go.Deep
attribute [local go_sem] fr_opt

def LowV (w : World) (v : Value) : Prop := ∀ b o l c, v = .slice (some ⟨b, o, none⟩) l c → 0 < l → b < w.heap.size
def RoomTo (w : World) (e : Ending) (w' : World) : Prop := e = .returned (.bool true) ∧ Chg (fun _ => False) w w'

theorem begins_nil (l : List Ent) : (begins ⟨#[]⟩ l).length = l.length := by
  unfold begins
  rw [List.length_map, List.filter_eq_self.2 (fun e _ => by simp [Lib.hasPrefix])]
theorem list_len {g : Gh} {w w' : World} {e : Ending} (h : ListTo g ⟨#[]⟩ w e w') : ∃ p c, e = .returned (.slice p g.es.length c) ∧ Below w.heap.size w w' := by
  obtain ⟨v, vis, rfl, hp, ho, hb⟩ := h
  rw [begins_nil, hp.length_eq] at ho
  rcases ho.2 with ⟨e1, h0⟩ | ⟨g', cap, cur, e1, _⟩
  · exact ⟨none, 0, by rw [e1, h0], hb⟩
  · exact ⟨_, _, by rw [e1], hb⟩
/-- What is asked of a disk and told: how the loop's calls go. -/
structure Asks (w2 : World) (n : Nat) (d : Nat) (g : Gh) (st : St) : Prop where
  size : ∀ W, AwG w2 W g st → Calls Try.prog 18 #[.pointer (some ⟨d, 0, none⟩)] W fun e w' => e = .returned (.int .i64 st.size) ∧ AwG w2 w' g st ∧ Chg (fun _ => False) W w'
  waits : ∀ W, AwG w2 W g st → Calls Try.prog 17 #[.pointer (some ⟨d, 0, none⟩)] W fun e w' => e = .returned (.int .i64 st.waits) ∧ AwG w2 w' g st ∧ Chg (fun _ => False) W w'
  list : ∀ W, AwG w2 W g st → Calls Try.prog 20 #[.pointer (some ⟨d, 0, none⟩), .string ⟨#[]⟩] W fun e w' => ∃ p c, e = .returned (.slice p st.fs.length c) ∧ AwG w2 w' g st ∧ Chg (fun _ => False) W w'
  room : ∀ W, AwG w2 W g st → Calls Try.prog 21 #[.pointer (some ⟨d, 0, none⟩)] W fun e w' => e = .returned (.int .i64 ((st.cap : Int) - st.size)) ∧ AwG w2 w' g st ∧ Chg (fun _ => False) W w'
theorem asks {w2 : World} {n d : Nat} {g : Gh} {st : St} (hd : g.d = d) (hg : Good n st) (hn : n ≤ 1048576) : Asks w2 n d g st := by
  subst hd
  refine ⟨fun W h => ?_, fun W h => ?_, fun W h => ?_, fun W h => ?_⟩
  · exact (size_any g st W h.at_).mono fun e w' hh => ⟨hh.1, hh.2 ▸ h, hh.2 ▸ Chg.refl _ _⟩
  · exact (waits_any g st W h.at_ (hg.waits hn)).mono fun e w' hh => ⟨hh.1, h.new (Chg.of_below hh.2), Chg.of_below hh.2⟩
  · refine (list_any g st ⟨#[]⟩ W h.at_ (by have := hg.len; omega)).mono fun e w' hh => ?_
    obtain ⟨p, c, he, hb⟩ := list_len hh
    have hl : g.es.length = st.fs.length := by rw [← h.at_.fs, List.length_map]
    exact ⟨p, c, hl ▸ he, h.new (Chg.of_below hb), Chg.of_below hb⟩
  · refine (room_any g st W h.at_ hg.size hg.cap).mono fun e w' hh => ?_
    obtain ⟨he, k, rfl⟩ := hh
    exact ⟨he, h.new ((Chg.refl _ _).drewN k), (Chg.refl _ _).drewN k⟩

theorem do_step {w w2 : World} {n : Nat} {g : Gh} {st : St} {o : OpM} (hg : Good n st) (hn : n ≤ 1048576) (hk : o.kind ≤ 5) (hs : Small o) (hm : o.at_ ≤ 9223372036854775807 ∧ LowV w o.vn ∧ LowV w o.vk) (hw : w.heap.size ≤ w2.heap.size)
    (W : World) (h : AwG w2 W g st) (hst : Strs W 0 o.vn o.names) (hbo : BoolsOf W o.vk o.bs) :
    Calls Try.prog 12 #[.pointer (some ⟨w2.heap.size, 0, none⟩), o.val] W fun e w' => e = .returned (.int .i64 (doE st o)) ∧ ∃ g', AwG w2 w' g' (doS st o) := by
  obtain ⟨s1, s2, s3, s4, s5, s6⟩ := hs
  have hout : ∀ v, LowV w v → Out g v := fun v hl b of len cap hv h0 hb => by
    have h1 := hl b of len cap hv h0
    have h2 := h.low b hb
    omega
  have hc := do_any n g st o W h.at_ hg hn ⟨hst, hbo, hout _ hm.2.1, hout _ hm.2.2, by unfold maxLen; omega, by unfold maxLen; omega, by omega, fun t ht => by have := s6 t ht; unfold maxLen; omega, by omega, by omega, hm.1⟩
  rw [h.d] at hc
  refine hc.mono fun e w' hh => ?_
  unfold DoTo at hh
  rw [if_neg (by omega)] at hh
  exact h.op hh

set_option maxHeartbeats 4000000 in
set_option maxRecDepth 100000 in
theorem walk_DiskRoom (a0 : Int) (v : Value) (os : List OpM) (w : World) (h0 : 0 ≤ a0) (h1 : a0 ≤ 65535) (h : OpsAt w v os) (hl : os.length ≤ maxLen)
    (hm : ∀ x ∈ os, x.at_ ≤ 9223372036854775807 ∧ LowV w x.vn ∧ LowV w x.vk) :
    Calls Try.prog 5 #[.int .u16 a0, v] w (RoomTo w) := by
  obtain ⟨a, cap, hv, hcells⟩ := id h
  obtain ⟨n, hn⟩ : ∃ n, n = os.length := ⟨_, rfl⟩
  rw [← hn] at hv
  subst hv
  have HN := Lib.hid hn
  have HC := Lib.hid hcells
  have HO := Lib.hid h
  have HM := Lib.hid hm
  clear hn hcells h hm
  have hw : IntKind.i64.wrap a0 = a0 := IntWalk.i64_in _ (by omega)
  go_enter Try.func5, Try.ntmps5
  go_wp2_with (go_at_call 6; refine (awake_any _).mono ?_; rintro e w1 ⟨rfl, hc1⟩)
  have HC1 := Lib.hid hc1
  clear hc1
  go_wp2_with (go_at_call 7; refine (great_any _ os _ (HO.out.new (by first | exact HC1.out | exact HC1.out.drew)) hl).mono ?_)
  rintro e w2 ⟨b, rfl, hc2, hsm⟩
  cases b with
  | true =>
    go_wp2_with fail
    go_ret
    exact ⟨rfl, HC1.out.trans hc2 (fun _ _ x => x)⟩
  | false =>
    obtain ⟨h100, hsmall⟩ := hsm rfl
    have hn100 : n ≤ 100 := by rw [HN.out]; exact h100
    have HSM := Lib.hid hsmall
    have hcw : Chg (fun _ => False) w w2 := HC1.out.trans hc2 (fun _ _ x => x)
    have HCW := Lib.hid hcw
    clear hsmall hsm hc2 hcw h100
    go_wp2_with (go_at_call 8; refine (new_any a0 _).mono ?_)
    rintro e w3 ⟨rfl, hd0, hb0⟩
    obtain ⟨d, hd⟩ : ∃ d, d = w2.heap.size := ⟨_, rfl⟩
    have hst : newSt a0 = ⟨false, false, 0, a0.toNat, 0, 0, []⟩ := by
      unfold newSt
      congr 1
      omega
    have HA : Hid (∃ g, AwG w2 w3 g (newSt a0)) := ⟨_, AwG.start hd0 hb0⟩
    have hg0 : Good 0 (newSt a0) := Good.new a0
    have HG0 := Lib.hid hg0
    have HST := Lib.hid hst
    have HD := Lib.hid hd
    rw [← hd]
    clear hd0 hb0 hd hg0 hst
    go_wp2_with fail
    go_loopw [4, 7, 8, 9, 10, 11, 21] (fun r _ _ _ _ _ i wr => r = .bool false ∧ ∃ k : Nat, k ≤ n ∧ i = .int .i64 k ∧ ∃ g st, AwG w2 wr g st ∧ Good k st ∧ st.lit = false ∧ st.cap = a0.toNat) (fun _ _ _ _ _ _ i _ => n - (intOf i).toNat)
    case atStart =>
      obtain ⟨g, hg⟩ := HA.out
      exact ⟨rfl, 0, Nat.zero_le _, rfl, g, _, hg, HG0.out, by rw [HST.out], by rw [HST.out]⟩
    case round =>
      obtain ⟨rfl, k, hk, rfl, g, st, hag, hgd, hlit, hcap⟩ := hrel
      have HAG := Lib.hid hag
      have HGD := Lib.hid hgd
      have HLIT := Lib.hid hlit
      have HCAP := Lib.hid hcap
      clear hag hgd hlit hcap
      by_cases hlt : k < n
      · obtain ⟨x, hx⟩ : ∃ x, os[k]? = some x := ⟨_, List.getElem?_eq_getElem (by rw [← HN.out]; exact hlt)⟩
        have hxm := List.mem_of_getElem? hx
        have hsx := HSM.out x hxm
        have hmx := HM.out x hxm
        have hcr : Chg (fun _ => False) w wr := HCW.out.trans HAG.out.chg (fun _ _ x => x)
        obtain ⟨b, o, ha, hat⟩ : ∃ b o, a = some ⟨b, o, none⟩ ∧ OpAt wr b (o + k * 8) x := by
          rcases HC.out with h0 | ⟨b, o, h1, h2⟩
          · rw [h0] at hx; cases hx
          · exact ⟨b, o, h1, (h2 k x hx).new hcr⟩
        subst ha
        have HSX := Lib.hid hsx
        have HMX := Lib.hid hmx
        clear hx hxm hsx hmx hcr
        obtain ⟨x_, hx_⟩ : ∃ y, y = x := ⟨_, rfl⟩
        have HXX := Lib.hid hx_
        clear hx_
        obtain ⟨kd, at_, nm, to_, data, vn, names, vk, bs, lack⟩ := x
        obtain ⟨c0, c1, c2, c3, c4, c5, c6, c7, hst, hbo⟩ := hat
        simp only at c0 c1 c2 c3 c4 c5 c6 c7 hst hbo
        obtain ⟨an, cn, hvn⟩ := hst.form
        obtain ⟨ak, ck, hvk, _⟩ := id hbo
        obtain ⟨nn, hnn⟩ : ∃ k, k = names.length := ⟨_, rfl⟩
        obtain ⟨nk, hnk⟩ : ∃ k, k = bs.length := ⟨_, rfl⟩
        rw [← hnn] at hvn
        rw [← hnk] at hvk
        subst hvn
        subst hvk
        clear hnn hnk
        obtain ⟨W1, hW1⟩ : ∃ W, W = wr.alloc (.cells #[.int .i64 kd, .int .i64 at_, .string nm, .string to_, .string data, .slice an nn cn, .slice ak nk ck, .int .i64 lack] 36) := ⟨_, rfl⟩
        have hc1 : Chg (fun _ => False) wr W1 := hW1 ▸ Chg.alloc _ (Chg.refl _ _) _
        have HA1 : Hid (AwG w2 W1 g st) := HAG.out.new hc1
        have HW1 := Lib.hid hW1
        have HST := Lib.hid hst
        have HBO := Lib.hid hbo
        have HCR := Lib.hid hc1
        clear hc1 hW1 hst hbo
        by_cases h5 : 5 < kd
        · go_wp2_with fail
          refine ⟨⟨rfl, k + 1, by omega, by go_num, g, st, HW1.out ▸ HA1.out, HGD.out.more (Nat.le_succ _), HLIT.out, HCAP.out⟩, by simp [intOf]; omega⟩
        · have hq : Asks w2 k d g st := asks (HAG.out.d.trans HD.out.symm) HGD.out (by omega)
          have HQ := Lib.hid hq
          clear hq
          have e0 : W1.cell? ⟨wr.heap.size, 0, none⟩ = some (.int .i64 kd) := by rw [HW1.out]; simp
          have e1 : W1.cell? ⟨wr.heap.size, 1, none⟩ = some (.int .i64 at_) := by rw [HW1.out]; simp
          have e2 : W1.cell? ⟨wr.heap.size, 2, none⟩ = some (.string nm) := by rw [HW1.out]; simp
          have e3 : W1.cell? ⟨wr.heap.size, 3, none⟩ = some (.string to_) := by rw [HW1.out]; simp
          have e4 : W1.cell? ⟨wr.heap.size, 4, none⟩ = some (.string data) := by rw [HW1.out]; simp
          have e5 : W1.cell? ⟨wr.heap.size, 5, none⟩ = some (.slice an nn cn) := by rw [HW1.out]; simp
          have e6 : W1.cell? ⟨wr.heap.size, 6, none⟩ = some (.slice ak nk ck) := by rw [HW1.out]; simp
          have e7 : W1.cell? ⟨wr.heap.size, 7, none⟩ = some (.int .i64 lack) := by rw [HW1.out]; simp
          go_wp2_with fail
          rw [← HW1.out]
          refine (HQ.out.size W1 HA1.out).mono ?_
          rintro e Wa ⟨rfl, hA, hcA⟩
          go_wp2_with fail
          refine (HQ.out.waits _ (by first | exact hA | exact hA.drew)).mono ?_
          rintro e Wb ⟨rfl, hB, hcB⟩
          go_wp2_with fail
          refine (HQ.out.list _ (by first | exact hB | exact hB.drew)).mono ?_
          rintro e Wc ⟨p, c, rfl, hC, hcC⟩
          have hcAC : Chg (fun _ => False) W1 Wc := by
            first
            | exact (hcA.trans hcB (fun _ _ x => x)).trans hcC (fun _ _ x => x)
            | exact (hcA.drew.trans hcB (fun _ _ x => x)).drew.trans hcC (fun _ _ x => x)
          have f0 := hcAC.cell e0 (fun x => x)
          have f1 := hcAC.cell e1 (fun x => x)
          have f2 := hcAC.cell e2 (fun x => x)
          have f3 := hcAC.cell e3 (fun x => x)
          have f4 := hcAC.cell e4 (fun x => x)
          have f5 := hcAC.cell e5 (fun x => x)
          have f6 := hcAC.cell e6 (fun x => x)
          have f7 := hcAC.cell e7 (fun x => x)
          have HCAC := Lib.hid hcAC
          have HCC := Lib.hid hC
          clear hcAC hcA hcB hcC hA hB hC e0 e1 e2 e3 e4 e5 e6 e7 c0 c1 c2 c3 c4 c5 c6 c7
          go_wp2_with fail
          obtain ⟨x, hxe⟩ : ∃ x : OpM, x = ⟨kd, at_, nm, to_, data, .slice an nn cn, names, .slice ak nk ck, bs, lack⟩ := ⟨_, rfl⟩
          have hwle : w.heap.size ≤ w2.heap.size := HCW.out.size
          have hdo := do_step (o := ⟨kd, at_, nm, to_, data, .slice an nn cn, names, .slice ak nk ck, bs, lack⟩) HGD.out (by omega) (by show kd ≤ 5; omega) HSX.out HMX.out hwle Wc HCC.out
            (by
              obtain ⟨a, cap, h1, h2⟩ := HST.out
              refine ⟨a, cap, h1, ?_⟩
              rcases h2 with h2 | ⟨b, of, h3, h4, h5⟩
              · exact .inl h2
              · exact .inr ⟨b, of, h3, h4, fun i hi => HCAC.out.cell (HCR.out.cell (h5 i hi) (fun x => x)) (fun x => x)⟩)
            ((HBO.out.chg HCR.out (fun _ _ _ _ _ x => x)).chg HCAC.out (fun _ _ _ _ _ x => x))
          rw [← HD.out] at hdo
          have hgo := HGD.out.doS ⟨kd, at_, nm, to_, data, .slice an nn cn, names, .slice ak nk ck, bs, lack⟩ HMX.out.1
          have hr3 := rest3_doS ⟨kd, at_, nm, to_, data, .slice an nn cn, names, .slice ak nk ck, bs, lack⟩ HLIT.out (by show kd ≤ 5; omega)
          have href := doS_refused ⟨kd, at_, nm, to_, data, .slice an nn cn, names, .slice ak nk ck, bs, lack⟩ HLIT.out (by show kd ≤ 5; omega)
          refine hdo.mono ?_
          clear hdo hwle
          rw [← hxe] at hgo hr3 href
          rw [← hxe]
          clear hxe f0 f1 f2 f3 f4 f5 f6 f7
          obtain ⟨ke, hke⟩ : ∃ z, z = doE st x := ⟨_, rfl⟩
          obtain ⟨st2, hst2⟩ : ∃ z, z = doS st x := ⟨_, rfl⟩
          rw [← hke] at href
          rw [← hst2] at hgo hr3 href
          rw [← hke, ← hst2]
          clear hke hst2
          rintro e Wd ⟨rfl, g2, hag2⟩
          have hlit2 : st2.lit = false := (congrArg (fun p => p.1) hr3).trans HLIT.out
          have hcap2 : st2.cap = a0.toNat := (congrArg (fun p => p.2.2) hr3).trans HCAP.out
          have HGD2 := Lib.hid hgo
          have HLIT2 := Lib.hid hlit2
          have HCAP2 := Lib.hid hcap2
          have hq2 : Asks w2 (k + 1) d g2 st2 := asks (hag2.d.trans HD.out.symm) hgo (by omega)
          have HQ2 := Lib.hid hq2
          have hca : (st2.cap : Int) = a0 := by rw [hcap2]; omega
          have hss : (st2.size : Int) ≤ (st2.cap : Int) := by have := hgo.size; omega
          have hwr : IntKind.i64.wrap ((st2.size : Int) + ((st2.cap : Int) - st2.size)) = a0 := by
            rw [show (st2.size : Int) + ((st2.cap : Int) - st2.size) = a0 by omega]; exact hw
          have hneg : decide ((st2.cap : Int) - (st2.size : Int) < 0) = false := decide_eq_false (by omega)
          have HREF := Lib.hid href
          have HCA := Lib.hid hca
          clear hgo hlit2 hcap2 hq2 hr3 href hca
          by_cases hz : ke = 0
          · subst hz
            go_wp2_with (first
            | (go_at_call 18; refine (HQ2.out.size _ (by first | assumption | exact AwG.drew (by assumption))).mono ?_; rintro e Wx ⟨rfl, hA, hcA⟩)
            | (go_at_call 17; refine (HQ2.out.waits _ (by first | assumption | exact AwG.drew (by assumption))).mono ?_; rintro e Wx ⟨rfl, hA, hcA⟩)
            | (go_at_call 20; refine (HQ2.out.list _ (by first | assumption | exact AwG.drew (by assumption))).mono ?_; rintro e Wx ⟨p, c, rfl, hA, hcA⟩)
            | (go_at_call 21; refine (HQ2.out.room _ (by first | assumption | exact AwG.drew (by assumption))).mono ?_; rintro e Wx ⟨rfl, hA, hcA⟩))
            all_goals try (exact ⟨⟨rfl, k + 1, by omega, by go_num, g2, _, (by first | assumption | exact AwG.drew (by assumption)), HGD2.out, HLIT2.out, HCAP2.out⟩, by simp [intOf]; omega⟩)
            all_goals exfalso
            all_goals trace_state
          · have he := HREF.out hz
            have hz' : (ke == 0) = false := by simpa using hz
            subst he
            go_wp2_with (first
            | (go_at_call 18; refine (HQ2.out.size _ (by first | assumption | exact AwG.drew (by assumption))).mono ?_; rintro e Wx ⟨rfl, hA, hcA⟩)
            | (go_at_call 17; refine (HQ2.out.waits _ (by first | assumption | exact AwG.drew (by assumption))).mono ?_; rintro e Wx ⟨rfl, hA, hcA⟩)
            | (go_at_call 20; refine (HQ2.out.list _ (by first | assumption | exact AwG.drew (by assumption))).mono ?_; rintro e Wx ⟨p, c, rfl, hA, hcA⟩)
            | (go_at_call 21; refine (HQ2.out.room _ (by first | assumption | exact AwG.drew (by assumption))).mono ?_; rintro e Wx ⟨rfl, hA, hcA⟩))
            all_goals try (exact ⟨⟨rfl, k + 1, by omega, by go_num, g2, _, (by first | assumption | exact AwG.drew (by assumption)), HGD2.out, HLIT2.out, HCAP2.out⟩, by simp [intOf]; omega⟩)
            all_goals exfalso
            all_goals trace_state
      · go_wp2_with fail
        go_ret
        exact ⟨rfl, HCW.out.trans HAG.out.chg (fun _ _ x => x)⟩
end Go.Proofs.Ytmoehmclcegmnaa
