/- A part. -/
import Derived.Test.YtldkapjeheiiaaaGreatDoorEal34
import Derived.Test.YtldkapjeheiiaaaGreatDoorEal60
set_option linter.unusedVariables false
set_option linter.unusedSimpArgs false
namespace Go.Proofs.YtldkapjeheiiaaaGreatDoor
open Go.RowKit Go.Deep
structure AllJ (w0 w : World) (B : EnB) (z : EnG) (rs : List RcM) (rb k h : Nat) : Prop where
  a : EnA w0 w B z [] rs k 0
  rig : RigI w rb B z
  nt : NtR rs z.M
  hd : z.hd = h
  ws : z.ws = []
  L : z.L = []
theorem AllJ.new {w0 w w' : World} {B : EnB} {z : EnG} {rs : List RcM} {rb k h : Nat} (i : AllJ w0 w B z rs rb k h) (hc : Chg (fun _ => False) w w') : AllJ w0 w' B z rs rb k h := ⟨i.a.new hc, i.rig.new hc, i.nt, i.hd, i.ws, i.L⟩
theorem AllJ.add {w0 w : World} {B : EnB} {z : EnG} {rs : List RcM} {rb k h : Nat} (i : AllJ w0 w B z rs rb k h) (hk : k ≤ 100) (M : MsgM) (vk : Value) (hks : Strs w 0 vk M.keys) (hcap : CapOk vk) (hs : Sound M) :
    Calls Tryz.prog 12 #[.agg (rigC B), M.val vk] w fun e w' => ∃ x y, e = .returned (.tuple #[.int .i64 x, .bool y]) ∧ ∃ z' rs', AllJ w0 w' B z' rs' rb (k + 1) h ∧ QTo w (z.own B) w' (z'.own B) := by
  refine (eadd_any i.a hk M vk hks hcap hs).mono ?_
  rintro e w' (⟨_, rfl, hc⟩ | ⟨bs, z', p1, p2, rfl, hA, hq, a1, a2, a3, a4, a5, a6, a7, a8⟩)
  · exact ⟨_, _, rfl, z, rs, ⟨(i.a.new hc).more (Nat.le_succ _) (Nat.le_refl _), i.rig.new hc, i.nt, i.hd, i.ws, i.L⟩, QTo.of_new hc⟩
  · refine ⟨_, _, rfl, z', _, ⟨hA, i.rig.qt hq, ?_, a4.trans i.hd, a5.trans i.ws, a6.trans i.L⟩, hq⟩
    rw [a3]
    exact i.nt.add (r := ⟨idL z.x.l bs, bs.length, M⟩) (fun x hx => a7 x (by rw [i.a.rs]; exact hx))
theorem all_end {w0 w : World} {B : EnB} {z z5 : EnG} {rs : List RcM} {k h : Nat} (hA : EnA w0 w B z [] rs k 0) (hk : k ≤ 1000) (hn : NtR rs z.M) (hh : z.hd = h) (hw : z.ws = []) (hL : z.L = []) (c4 : SameZ z z5) (c5 : z5.ws = z.ws ++ (schd rs).flatMap (wsR z.M z.hd)) (c6 : z5.L = z.L ++ (schd rs).flatMap (ltR z.M z.hd)) :
    z5.ws.length + z5.L.length = cntP z5.M 1 ∧ ∀ x ∈ z5.L, stP z5.M x = 1 ∧ dueP z5.M x ≤ (h : Int) ∧ 0 ≤ x ∧ x ≤ 1000000000 := by
  rw [c5, c6, hw, hL, c4.M, List.nil_append, List.nil_append, hn.cnt, wl_count]
  refine ⟨rfl, fun x hx => ?_⟩
  obtain ⟨r, hr, e1, e2, e3⟩ := lt_mem hx
  have hm : r ∈ RS z := by rw [hA.rs]; exact (List.mem_filter.1 hr).1
  have h1 := hA.recs r hm
  have h2 := hA.len
  have h3 := hn.due r hr (e1 ▸ e2)
  have h4 := hA.i.tp.la'
  have h5 : (bytesI z.x.l).length ≤ 1000000000 := by
    omega
  refine ⟨e2, ?_, by omega, by omega⟩
  rw [e1, h3]
  omega
set_option maxHeartbeats 8000000 in
set_option maxRecDepth 100000 in
theorem walkF_EnqAll (st : Int) (v : Value) (ms : List (MsgM × Value)) (w : World) (ht : Tab10 w) (h8 : (Lit.int .u8 st).wf = true) (hv : MsgsAt w v ms) (hl : ms.length ≤ maxLen) (hs : ∀ p ∈ ms, Sized w p ∧ CapOk p.2) :
    Calls Tryz.prog 5 #[.int .u8 st, v] w fun e w' => e = .returned (.bool true) ∧ Below w.heap.size w w' := by
  have h8' : 0 ≤ st ∧ st ≤ 255 := by
    have h2 : IntKind.u8.min ≤ st ∧ st ≤ IntKind.u8.max := by simpa [Lit.wf] using h8
    have e1 : IntKind.u8.min = 0 := by decide
    have e2 : IntKind.u8.max = 255 := by decide
    omega
  obtain ⟨a0, a255⟩ := h8'
  obtain ⟨h, rfl⟩ : ∃ h : Nat, st = (h : Int) := ⟨st.toNat, by omega⟩
  unfold maxLen at hl
  have HTB := Lib.hid ht
  have HV := Lib.hid hv
  have HS := Lib.hid hs
  obtain ⟨a, cap, rfl⟩ := hv.form
  obtain ⟨n, hn⟩ : ∃ n, n = ms.length := ⟨_, rfl⟩
  have HN := Lib.hid hn
  rw [← hn] at HV hl ⊢
  clear ht hv hs hn h8
  go_enter Tryz.func5, Tryz.ntmps5
  go_wp2_with fail
  refine (eawake_any w HTB.out).mono ?_
  rintro e w1 ⟨rfl, hc1⟩
  have HC1 := Lib.hid hc1
  clear hc1
  by_cases h60 : 60 < n
  · go_wp2_with fail
    go_ret
    exact ⟨rfl, chg_below HC1.out⟩
  go_wp2_with fail
  refine (great_msgs _ ms w1 (HV.out.keep HC1.out (fun _ _ e => e)) (by rw [← HN.out]; omega) (fun p hp => (HS.out p hp).1.below (chg_below HC1.out))).mono ?_
  rintro e w2 ⟨z, rfl, hf, hb2⟩
  have HC2 := Lib.hid (HC1.out.trans (below_chg hb2) (fun _ _ e => e))
  have HF := Lib.hid hf
  clear hb2 hf
  cases z
  case true =>
    go_wp2_with fail
    go_ret
    exact ⟨rfl, chg_below HC2.out⟩
  have HFA := Lib.hid (HF.out rfl)
  clear HF
  have HM := Lib.hid (emade_any w2 (tab_chg HTB.out HC2.out) h (by omega))
  go_wp2_with fail
  refine HM.out.mono ?_
  rintro e w3 ⟨B, z, rfl, hA, m1, m2, m3, m4, m5, m6⟩
  obtain ⟨W3, hW3⟩ : ∃ W, W = w3.alloc (.cells #[.pointer (some ⟨B.tb, 0, none⟩), .pointer (some ⟨B.sb, 0, none⟩), .pointer (some ⟨B.lb, 0, none⟩), .pointer (some ⟨B.eb, 0, none⟩)] 29) := ⟨_, rfl⟩
  have hc3 : Chg (fun _ => False) w3 W3 := hW3 ▸ Chg.alloc _ (Chg.refl _ _) _
  have hR3 : RigI W3 w3.heap.size B z := hW3 ▸ RigI.made hA.i
  obtain ⟨rb, hrb⟩ : ∃ r, r = w3.heap.size := ⟨_, rfl⟩
  rw [← hrb] at hR3
  have hJ3 : AllJ w2 W3 B z [] rb 0 h := ⟨hA.new hc3, hR3, by rw [m3]; exact NtR.nil, m4, m5, m6⟩
  have HJ3 : Hid (∃ z rs, AllJ w2 W3 B z rs rb 0 h) := Lib.hid ⟨z, [], hJ3⟩
  have HW3 := Lib.hid hW3
  have HRB := Lib.hid hrb
  obtain ⟨eb, tb, sb, mb, lb⟩ := B
  dsimp only at *
  clear hA m1 m2 m3 m4 m5 m6 hW3 hc3 hR3 hrb hJ3
  go_upto_region 9 with fail
  rw [← HW3.out, ← HRB.out]
  go_loopw [35] (fun i wr => ∃ k : Nat, k ≤ n ∧ i = .int .i64 (k : Int) ∧ Hid (∃ z rs, AllJ w2 wr ⟨eb, tb, sb, mb, lb⟩ z rs rb k h)) (fun i _ => n - (intOf i).toNat)
  case atStart => exact ⟨0, Nat.zero_le _, rfl, HJ3⟩
  case round =>
    obtain ⟨k, hk, rfl, HX⟩ := hrel
    by_cases hlt : k < n
    · obtain ⟨z0, rs0, hI⟩ := HX.out
      have HI := Lib.hid hI
      clear hI
      obtain ⟨p, hp⟩ : ∃ p, ms[k]? = some p := ⟨_, List.getElem?_eq_getElem (by rw [← HN.out]; exact hlt)⟩
      have hpm := List.mem_of_getElem? hp
      obtain ⟨M, vk⟩ := p
      have hcw : Chg (fun _ => False) w wr := HC2.out.trans HI.out.a.chg (fun _ _ e => e)
      obtain ⟨a', cap', e', hx⟩ := HV.out.keep hcw (fun _ _ e => e)
      rcases hx with hx | ⟨b, o, rfl, hbl, hcell⟩
      · rw [hx] at hp; cases hp
      have key := hcell k _ hp
      have hsz : Sized wr (M, vk) := (HS.out _ hpm).1.below (chg_below hcw)
      have hcp : CapOk vk := (HS.out _ hpm).2
      have hfn : Fine M := HFA.out _ hpm
      obtain ⟨hea, hec⟩ : a = some ⟨b, o, none⟩ ∧ cap = cap' := by injection e' with e1 e2 e3; exact ⟨e1, e3⟩
      subst hea
      clear e' hec hcell
      obtain ⟨m1, mq, m3, m4, m5, m6, m7, m8, m9, m10⟩ := M
      obtain ⟨ka, kc, hva⟩ := hsz.strs.form
      dsimp only at hva
      obtain ⟨kl, hkl⟩ : ∃ l, l = m10.length := ⟨_, rfl⟩
      rw [← hkl] at hva
      subst hva
      have f0 : wr.cell? ⟨b, o + k * 10, none⟩ = some (.int .i64 m1) := by first | (simp [MsgM.cells]; done) | simpa [MsgM.cells] using key 0 (by decide)
      have f1 : wr.cell? ⟨b, o + k * 10 + 1, none⟩ = some (.int .i64 mq) := by first | (simp [MsgM.cells]; done) | simpa [MsgM.cells] using key 1 (by decide)
      have f2 : wr.cell? ⟨b, o + k * 10 + 1 + 1, none⟩ = some (.int .i64 m3) := by first | (simp [MsgM.cells]; done) | simpa [MsgM.cells] using key 2 (by decide)
      have f3 : wr.cell? ⟨b, o + k * 10 + 1 + 1 + 1, none⟩ = some (.int .i64 m4) := by first | (simp [MsgM.cells]; done) | simpa [MsgM.cells] using key 3 (by decide)
      have f4 : wr.cell? ⟨b, o + k * 10 + 1 + 1 + 1 + 1, none⟩ = some (.int .i64 m5) := by first | (simp [MsgM.cells]; done) | simpa [MsgM.cells] using key 4 (by decide)
      have f5 : wr.cell? ⟨b, o + k * 10 + 1 + 1 + 1 + 1 + 1, none⟩ = some (.int .i64 m6) := by first | (simp [MsgM.cells]; done) | simpa [MsgM.cells] using key 5 (by decide)
      have f6 : wr.cell? ⟨b, o + k * 10 + 1 + 1 + 1 + 1 + 1 + 1, none⟩ = some (.string m7) := by first | (simp [MsgM.cells]; done) | simpa [MsgM.cells] using key 6 (by decide)
      have f7 : wr.cell? ⟨b, o + k * 10 + 1 + 1 + 1 + 1 + 1 + 1 + 1, none⟩ = some (.string m8) := by first | (simp [MsgM.cells]; done) | simpa [MsgM.cells] using key 7 (by decide)
      have f8 : wr.cell? ⟨b, o + k * 10 + 1 + 1 + 1 + 1 + 1 + 1 + 1 + 1, none⟩ = some (.string m9) := by first | (simp [MsgM.cells]; done) | simpa [MsgM.cells] using key 8 (by decide)
      have f9 : wr.cell? ⟨b, o + k * 10 + 1 + 1 + 1 + 1 + 1 + 1 + 1 + 1 + 1, none⟩ = some (.slice ka kl kc) := by first | (simp [MsgM.cells]; done) | simpa [MsgM.cells] using key 9 (by decide)
      obtain ⟨W1, hW1⟩ : ∃ W, W = wr.alloc (.cells #[.int .i64 m1, .int .i64 mq, .int .i64 m3, .int .i64 m4, .int .i64 m5, .int .i64 m6, .string m7, .string m8, .string m9, .slice ka kl kc] 36) := ⟨_, rfl⟩
      have hb1 : Below wr.heap.size wr W1 := hW1 ▸ (Below.refl _ _).alloc (Nat.le_refl _) _
      have hbx : Box W1 wr.heap.size #[.int .i64 m1, .int .i64 mq, .int .i64 m3, .int .i64 m4, .int .i64 m5, .int .i64 m6, .string m7, .string m8, .string m9, .slice ka kl kc] := hW1 ▸ Box.new wr _
      have hI1 := HI.out.new (below_chg hb1)
      have hap := hI1.add (by omega) ⟨m1, mq, m3, m4, m5, m6, m7, m8, m9, m10⟩ (.slice ka kl kc) (hsz.strs.below hb1 (Nat.le_refl _)) hcp hfn.sound
      have k0 := hbx.cell
      obtain ⟨x0, x1, x2, x3⟩ := hI1.rig.cells
      dsimp only at x0 x1 x2 x3
      obtain ⟨bx, hbx'⟩ : ∃ q, q = wr.heap.size := ⟨_, rfl⟩
      rw [← hbx'] at k0
      have HBB := Lib.hid hbx'
      have HAP := Lib.hid hap
      have HW1 := Lib.hid hW1
      unfold rigC MsgM.val MsgM.cells at HAP
      dsimp only at HAP
      clear hp hpm hcw hbl key hsz hcp hfn hW1 hb1 hbx hI1 hap hkl hbx'
      go_upto_region 11 with fail
      rw [← HW1.out, ← HBB.out]
      clear f0 f1 f2 f3 f4 f5 f6 f7 f8 f9
      go_wp2_with fail
      refine HAP.out.mono ?_
      rintro e w5 ⟨xx, yy, rfl, z5, rs5, hJ5, _⟩
      have HX5 : Hid (∃ z rs, AllJ w2 w5 ⟨eb, tb, sb, mb, lb⟩ z rs rb (k + 1) h) := Lib.hid ⟨z5, rs5, hJ5⟩
      clear hJ5
      go_wp2_with fail
      exact ⟨⟨k + 1, by omega, by go_num, HX5⟩, by simp [intOf]; omega⟩
    · as_aux_lemma =>
      obtain rfl : k = n := by omega
      obtain ⟨za, rsa, hIa⟩ := HX.out
      have HSY := Lib.hid (hIa.a.sync (by omega))
      have x0 : wr.cell? ⟨rb, 0, none⟩ = some (.pointer (some ⟨tb, 0, none⟩)) := hIa.rig.cells.1
      have HIA := Lib.hid hIa
      clear hIa hlt hk HX
      go_wp2_with fail
      refine HSY.out.mono ?_
      rintro e w4 ⟨rfl, x4, hA4, hq4, b1, b2⟩
      have hR4 := HIA.out.rig.qt hq4
      have x3 : w4.cell? ⟨rb, 3, none⟩ = some (.pointer (some ⟨eb, 0, none⟩)) := hR4.cells.2.2.2
      have HAL := Lib.hid (eall_any hA4 (by omega) (by decide))
      have HR4 := Lib.hid hR4
      have HA4 := Lib.hid hA4
      have HB4 : Hid (x4.m.synced = (((bytesI x4.l).length : Nat) : Int)) := Lib.hid (by rw [b1]; exact b2)
      clear hA4 hq4 hR4 b1 b2 x0
      go_wp2_with fail
      refine HAL.out.mono ?_
      rintro e w5 ⟨d, r, z5, c1, c2, rfl, c3, hA5, hq5, c4, c5, c6⟩
      have hr : r = [] := AllE.nil HA4.out (synced_all HA4.out HB4.out) c1 c2
      subst hr
      rw [List.append_nil] at c1
      subst c1
      obtain ⟨hcnt, hlate⟩ := all_end HA4.out (by omega) HIA.out.nt HIA.out.hd HIA.out.ws HIA.out.L c4 c5 c6
      have hR5 := HR4.out.qt hq5
      obtain ⟨y0, y1, y2, y3⟩ := hR5.cells
      dsimp only at y0 y1 y2 y3
      have hlf := eleft_any hA5 (by omega) (by decide)
      have e0 : leftN z5 [] = 0 := rfl
      rw [e0] at hlf
      have HLF := Lib.hid hlf
      have HA5 := Lib.hid hA5
      have HR5 := Lib.hid hR5
      have HCNT := Lib.hid hcnt
      have HLATE := Lib.hid hlate
      clear hA5 hq5 hR5 c2 c3 c4 c5 c6 hcnt hlate hlf e0 x3
      go_wp2_with fail
      refine HLF.out.mono ?_
      rintro e w6 ⟨rfl, hc6⟩
      have HA6 := Lib.hid (HA5.out.new hc6)
      have HR6 := Lib.hid (HR5.out.new hc6)
      obtain ⟨y0, y1, y2, y3⟩ := HR6.out.cells
      dsimp only at y0 y1 y2 y3
      have HWT := Lib.hid HA6.out.waits
      obtain ⟨wn, hwn⟩ : ∃ x, x = z5.ws.length := ⟨_, rfl⟩
      rw [← hwn] at HCNT HWT
      have HWN := Lib.hid hwn
      clear hc6 hwn
      go_wp2_with fail
      refine HWT.out.mono ?_
      rintro e w7 ⟨rfl, hc7⟩
      have HA7 := Lib.hid (HA6.out.new hc7)
      have HR7 := Lib.hid (HR6.out.new hc7)
      obtain ⟨y0, y1, y2, y3⟩ := HR7.out.cells
      dsimp only at y0 y1 y2 y3
      have HLT := Lib.hid HA7.out.late
      clear hc7
      go_wp2_with fail
      refine HLT.out.mono ?_
      rintro e w8 ⟨a8, cap8, rfl, hA8, hq8, hg8, hno8⟩
      have hR8 := HR7.out.qt hq8
      have HA8 := Lib.hid hA8
      have HR8 := Lib.hid hR8
      have HG8 := Lib.hid hg8
      obtain ⟨zL, hzL⟩ : ∃ x, x = z5.L := ⟨_, rfl⟩
      rw [← hzL] at HG8 HLATE HCNT
      obtain ⟨N, hN⟩ : ∃ x, x = zL.length := ⟨_, rfl⟩
      rw [← hzL, ← hN]
      rw [← hN] at HG8 HCNT
      have HNL := Lib.hid hN
      have hNs : N ≤ 1000 := by
        have h1 := HA7.out.ws
        have h2 := HA7.out.dl
        rw [← hzL, ← hN] at h1
        omega
      have hws : wn ≤ 1000 := by
        have h1 := HA7.out.ws
        have h2 := HA7.out.dl
        rw [← HWN.out] at h1
        omega
      clear hA8 hq8 hg8 hno8 hR8 hzL hN
      go_wp2_with fail
      go_loopw [72] (fun i wx => ∃ ii : Nat, i = .int .i64 (ii : Int) ∧ ii ≤ N ∧ Hid (Chg (fun _ => False) w8 wx)) (fun i _ => N - (intOf i).toNat)
      case atStart => exact ⟨0, rfl, Nat.zero_le _, Lib.hid (Chg.refl _ _)⟩
      case round =>
        obtain ⟨ii, rfl, hii, HCX⟩ := hrel
        have hA9 := HA8.out.new HCX.out
        have hR9 := HR8.out.new HCX.out
        have hG9 := HG8.out.new HCX.out
        obtain ⟨y0, y1, y2, y3⟩ := hR9.cells
        dsimp only at y0 y1 y2 y3
        by_cases hl2 : ii < N
        · obtain ⟨x, hx⟩ : ∃ x, zL[ii]? = some x := ⟨_, List.getElem?_eq_getElem (by rw [← HNL.out]; exact hl2)⟩
          obtain ⟨g, hg, hcell⟩ := hG9.at_ layK hx
          have hcx := hcell 0 (.int .i64 x) rfl
          rw [Nat.mul_one, Nat.add_zero] at hcx
          obtain ⟨t1, t2, t3, t4⟩ := HLATE.out x (List.mem_of_getElem? hx)
          have hwf : (Lit.int .i64 x).wf = true := by
            obtain ⟨xn, rfl⟩ : ∃ xn : Nat, x = (xn : Int) := ⟨x.toNat, by omega⟩
            exact twf_nat _ (by omega)
          have hst := pstate_any hA9.i.pe x hwf
          have hdu := pdue_any hA9.i.pe x hwf
          dsimp only at hst hdu
          rw [t1] at hst
          obtain ⟨dx, hdx⟩ : ∃ y, y = dueP z5.M x := ⟨_, rfl⟩
          rw [← hdx] at hdu t2
          subst hg
          have HST := Lib.hid hst
          have HDU := Lib.hid hdu
          have hgt : ¬ (h : Int) < dx := by omega
          have hlt' : (ii : Int) < (N : Int) := by omega
          clear hA9 hR9 hG9 hx hcell hst hdu hdx t1 t2 t3 t4 hwf
          go_wp2_with fail
          refine HST.out.mono ?_
          rintro e w9 ⟨rfl, rfl⟩
          go_wp2_with fail
          refine HDU.out.mono ?_
          rintro e w9 ⟨rfl, rfl⟩
          go_wp2_with fail
          exact ⟨⟨ii + 1, by go_num, by omega, HCX⟩, by simp [intOf]; omega⟩
        · obtain rfl : ii = N := by omega
          have hml := hA9.ml
          have HPD := Lib.hid (ppending_any hA9.i.pe (by omega))
          have HC9 := Lib.hid hA9.chg
          have hlt' : ¬ (ii : Int) < (ii : Int) := by omega
          clear hA9 hR9 hG9 hml
          go_wp2_with fail
          refine HPD.out.mono ?_
          rintro e w10 ⟨v10, l10, rfl, hp10, hr10, hb10⟩
          obtain ⟨a10, cap10, hv10⟩ := hr10.form
          have hl10 : l10.length = wn + ii := by rw [pend_len hp10]; exact HCNT.out.symm
          subst hv10
          have HE : Hid (Below w.heap.size w w10) := Lib.hid (chg_below ((HC2.out.trans HC9.out (fun _ _ e => e)).trans (below_chg hb10) (fun _ _ e => e)))
          rw [hl10]
          have ew : IntKind.i64.wrap ((wn : Int) + (ii : Int)) = ((wn + ii : Nat) : Int) := by rw [IntWalk.i64_in _ (by omega)]; omega
          clear hp10 hr10 hb10 hl10
          go_wp2_with fail
          go_ret
          exact ⟨by simp, HE.out⟩
end Go.Proofs.YtldkapjeheiiaaaGreatDoor
