/- A part. -/
import Derived.Test.YtdnhgodfmjapmaaGreatDoorDno17
import Derived.Test.YtdnhgodfmjapmaaGreatDoorDno30
set_option linter.unusedVariables false
set_option linter.unusedSimpArgs false
namespace Go.Proofs.YtdnhgodfmjapmaaGreatDoor
open Go.RowKit Go.Deep
def nots (n : Nat) : ByteArray := ⟨(List.replicate n (0 : UInt8)).toArray⟩
theorem nots_size (n : Nat) : (nots n).size = n := by
  show (List.replicate n (0 : UInt8)).toArray.size = n
  simp
theorem rrepeat_zero (n : Nat) : Lib.repeatL [(0 : UInt8)] n = List.replicate n 0 := by
  induction n with
  | zero => rfl
  | succ n ih => rw [List.replicate_succ, ← ih]; rfl
theorem nots_any (n : Nat) (w : World) (h : n ≤ 140737488355328) : Calls Tryz.prog 119 #[.int .i64 n] w fun e w' => e = .returned (.string (nots n)) ∧ Below w.heap.size w w' := by
  have hr := Tryz.strings_Repeat ⟨#[0]⟩ n w (by omega) (by show 1 * n ≤ _; omega)
  have e1 : (⟨(Lib.repeatL (⟨#[0]⟩ : ByteArray).data.toList n).toArray⟩ : ByteArray) = nots n := by
    show (⟨(Lib.repeatL [(0 : UInt8)] n).toArray⟩ : ByteArray) = nots n
    rw [rrepeat_zero]
    rfl
  rw [e1] at hr
  have HR := Lib.hid hr
  clear hr e1
  go_enter Tryz.func119, Tryz.ntmps119
  go_wp2_with (go_at_call 109; refine HR.out.mono ?_)
  rintro e w1 ⟨rfl, hb⟩
  have HB := Lib.hid hb
  clear hb
  go_wp2_with fail
  go_ret
  exact ⟨rfl, HB.out⟩
def notsB (s : ByteArray) : Bool := decide (s = nots s.size)
theorem areNots_any (s : ByteArray) (x : Bool) (w : World) (h : s.size ≤ 1000000) (hx : notsB s = x) : Calls Tryz.prog 163 #[.string s] w fun e w' => e = .returned (.bool x) ∧ Below w.heap.size w w' := by
  have HN := Lib.hid (nots_any s.size w (by omega))
  unfold notsB at hx
  obtain ⟨t, ht⟩ : ∃ t, t = nots s.size := ⟨_, rfl⟩
  rw [← ht] at HN hx
  clear ht
  by_cases hst : s = t
  · obtain rfl : true = x := by rw [← hx, decide_eq_true hst]
    have h1 : (s.toList == t.toList) = true := by rw [hst]; simp
    clear hx hst
    go_enter Tryz.func163, Tryz.ntmps163
    go_wp2_with fail
    refine HN.out.mono ?_
    rintro e w1 ⟨rfl, hb⟩
    have HB := Lib.hid hb
    clear hb
    go_wp2_with fail
    go_ret
    exact ⟨rfl, HB.out⟩
  · obtain rfl : false = x := by rw [← hx, decide_eq_false hst]
    have h1 : (s.toList == t.toList) = false := by
      have : s.toList ≠ t.toList := fun h => hst (by rw [← ba_toList s, h, ba_toList t])
      simpa using this
    clear hx hst
    go_enter Tryz.func163, Tryz.ntmps163
    go_wp2_with fail
    refine HN.out.mono ?_
    rintro e w1 ⟨rfl, hb⟩
    have HB := Lib.hid hb
    clear hb
    go_wp2_with fail
    go_ret
    exact ⟨rfl, HB.out⟩
def MsgM.nums (m : MsgM) : List Int := [m.kind, m.queue, m.due, m.retry, m.ref, m.born]
def NumsTo (m : MsgM) (w : World) (e : Ending) (w' : World) : Prop := ∃ v, e = .returned v ∧ Ints w' v m.nums ∧ Below w.heap.size w w'
theorem numbers_any (m : MsgM) (vk : Value) (w : World) : Calls Tryz.prog 161 #[m.val vk] w (NumsTo m w) := by
  unfold MsgM.val MsgM.cells
  go_enter Tryz.func161, Tryz.ntmps161
  go_wp2_with fail
  go_ret
  refine ⟨_, rfl, ?_, ?_⟩
  · have := ints_alloc (w.alloc (.cells (m.cells vk) 46)) m.nums 3
    simp only [World.size_alloc] at this
    exact this
  · exact ((Below.refl _ _).alloc (Nat.le_refl _) _).alloc (by simp) _
def restB (m : MsgM) : Bool :=
  if m.kind = 0 then bareB m && (allIn 0 0 [m.ref, m.born] && (decide (m.body.size ≤ 1024) && notsB m.body))
  else if m.kind = 1 then wholeB m && allIn 0 0 [m.due, m.ref]
  else if m.kind = 2 ∨ m.kind = 3 then wholeB m
  else if m.kind = 4 then bareB m && m.body.toList.isEmpty
  else false
def rightB (m : MsgM) : Bool := allIn 0 1099511627776 m.nums && restB m
theorem range_two (a b n n' : Int) (z : Bool) (W : World) (p q : Nat) (hp : W.cell? ⟨p, 0, none⟩ = some (.int .i64 a)) (hq : W.cell? ⟨q, 0, none⟩ = some (.int .i64 b)) (h1 : p < W.heap.size) (h2 : q < W.heap.size) (hz : allIn a b [n, n'] = z) :
    Calls Tryz.prog 215 #[.slice (some ⟨W.heap.size, 0, none⟩) 2 2, .pointer (some ⟨p, 0, none⟩), .pointer (some ⟨q, 0, none⟩)] (W.alloc (.cells #[.int .i64 n, .int .i64 n'] 3)) fun e w' => e = .returned (.bool z) ∧ Below W.heap.size W w' :=
  (range_any p q a b _ [n, n'] z _ (ints_alloc W [n, n'] 3) (by decide : (2 : Nat) ≤ 1000000)
    (by rw [(bcell ((Below.refl W.heap.size W).alloc (Nat.le_refl _) _)).1 p 0 h1]; exact hp) (by rw [(bcell ((Below.refl W.heap.size W).alloc (Nat.le_refl _) _)).1 q 0 h2]; exact hq) hz).mono fun e w' h => ⟨h.1, h.2 ▸ (Below.refl W.heap.size W).alloc (Nat.le_refl _) _⟩
set_option maxHeartbeats 4000000 in
set_option maxRecDepth 100000 in
theorem right_any (m : MsgM) (vk : Value) (x : Bool) (w : World) (hk : Strs w 0 vk m.keys) (hcap : CapOk vk) (hs : Sound m) (hx : rightB m = x) :
    Calls Tryz.prog 115 #[m.val vk] w fun e w' => e = .returned (.bool x) ∧ Below w.heap.size w w' := by
  obtain ⟨z, hz⟩ : ∃ z, allIn 0 1099511627776 m.nums = z := ⟨_, rfl⟩
  obtain ⟨zb, hzb⟩ : ∃ z, bareB m = z := ⟨_, rfl⟩
  obtain ⟨zw, hzw⟩ : ∃ z, wholeB m = z := ⟨_, rfl⟩
  obtain ⟨zn, hzn⟩ : ∃ z, notsB m.body = z := ⟨_, rfl⟩
  obtain ⟨z1, hz1⟩ : ∃ z, allIn 0 0 [m.ref, m.born] = z := ⟨_, rfl⟩
  obtain ⟨z2, hz2⟩ : ∃ z, allIn 0 0 [m.due, m.ref] = z := ⟨_, rfl⟩
  unfold rightB restB at hx
  rw [hz, hzb, hzw, hzn, hz1, hz2] at hx
  have HNU := Lib.hid fun W => numbers_any m vk W
  have HRG := Lib.hid fun v W p q (hv : Ints W v m.nums) hp hq => range_any p q 0 1099511627776 v m.nums z W hv (by decide : (6 : Nat) ≤ 1000000) hp hq hz
  have HBA : Hid (∀ W, Below w.heap.size w W → Calls Tryz.prog 162 #[m.val vk] W fun e w' => e = .returned (.bool zb) ∧ Below W.heap.size W w') := Lib.hid fun W hb => bare_any m vk zb W (hk.below hb (Nat.le_refl _)) hzb
  have HWH : Hid (∀ W, Below w.heap.size w W → Calls Tryz.prog 164 #[m.val vk] W fun e w' => e = .returned (.bool zw) ∧ Below W.heap.size W w') := Lib.hid fun W hb => whole_any m vk zw W (hk.below hb (Nat.le_refl _)) hcap hs hzw
  have HNO := Lib.hid fun W => areNots_any m.body zn W hs.body hzn
  have HR1 := Lib.hid fun W p q hp hq a b => range_two 0 0 m.ref m.born z1 W p q hp hq a b hz1
  have HR2 := Lib.hid fun W p q hp hq a b => range_two 0 0 m.due m.ref z2 W p q hp hq a b hz2
  clear hz hzb hzw hzn hz1 hz2 hs hk hcap
  unfold MsgM.val MsgM.cells at *
  obtain ⟨kind, queue, due, retry, ref, born, topic, tag, body, keys⟩ := m
  simp only at *
  cases z
  · obtain rfl : false = x := by simpa using hx
    go_enter Tryz.func115, Tryz.ntmps115
    go_wp2_with fail
    refine (from_any 0 1099511627776 _).mono ?_
    rintro e w1 ⟨p, q, rfl, hp0, hp1, hq0, hq1, kp, kq, hb⟩
    have hz1 := hb.size
    have hc1 := (bcell hb).1
    simp only [World.size_alloc] at hz1 hp0 hq0 hc1
    have HA1 := Lib.hid hb
    clear hb
    go_wp2_with fail
    refine (from_any 0 0 _).mono ?_
    rintro e w2 ⟨p', q', rfl, hp0', hp1', hq0', hq1', kp', kq', hb⟩
    have kp2 := ((bcell hb).1 p 0 hp1).trans kp
    have kq2 := ((bcell hb).1 q 0 hq1).trans kq
    have hz2 := hb.size
    have hb := HA1.out.trans (hb.mono (by simp only [World.size_alloc]; omega))
    have hc2 := (bcell hb).1
    simp only [World.size_alloc] at hc2
    have HA2 := Lib.hid hb
    clear hb kp kq HA1 hc1
    go_wp2_with fail
    refine (HNU.out _).mono ?_
    rintro e w3 ⟨v, rfl, hv, hb⟩
    have kp3 := ((bcell hb).1 p 0 (by omega)).trans kp2
    have kq3 := ((bcell hb).1 q 0 (by omega)).trans kq2
    have kp3' := ((bcell hb).1 p' 0 hp1').trans kp'
    have kq3' := ((bcell hb).1 q' 0 hq1').trans kq'
    have hz3 := hb.size
    have hb := HA2.out.trans (hb.mono (by simp only [World.size_alloc]; omega))
    have hc3 := (bcell hb).1
    simp only [World.size_alloc] at hc3
    have HA3 := Lib.hid hb
    have HV := Lib.hid hv
    clear hb kp2 kq2 kp' kq' hv hc2
    go_wp2_with fail
    refine (HRG.out v w3 p q HV.out kp3 kq3).mono ?_
    rintro e w4 ⟨rfl, rfl⟩
    clear kp3 kq3
    go_wp2_with fail
    go_ret
    exact ⟨rfl, ((Below.refl w.heap.size w).alloc (Nat.le_refl _) _).trans (HA3.out.mono (by simp))⟩
  by_cases hk0 : kind = 0
  · subst hk0
    rw [if_pos rfl] at hx
    cases zb
    · obtain rfl : false = x := by simpa using hx
      go_enter Tryz.func115, Tryz.ntmps115
      go_wp2_with fail
      refine (from_any 0 1099511627776 _).mono ?_
      rintro e w1 ⟨p, q, rfl, hp0, hp1, hq0, hq1, kp, kq, hb⟩
      have hz1 := hb.size
      have hc1 := (bcell hb).1
      simp only [World.size_alloc] at hz1 hp0 hq0 hc1
      have HA1 := Lib.hid hb
      clear hb
      go_wp2_with fail
      refine (from_any 0 0 _).mono ?_
      rintro e w2 ⟨p', q', rfl, hp0', hp1', hq0', hq1', kp', kq', hb⟩
      have kp2 := ((bcell hb).1 p 0 hp1).trans kp
      have kq2 := ((bcell hb).1 q 0 hq1).trans kq
      have hz2 := hb.size
      have hb := HA1.out.trans (hb.mono (by simp only [World.size_alloc]; omega))
      have hc2 := (bcell hb).1
      simp only [World.size_alloc] at hc2
      have HA2 := Lib.hid hb
      clear hb kp kq HA1 hc1
      go_wp2_with fail
      refine (HNU.out _).mono ?_
      rintro e w3 ⟨v, rfl, hv, hb⟩
      have kp3 := ((bcell hb).1 p 0 (by omega)).trans kp2
      have kq3 := ((bcell hb).1 q 0 (by omega)).trans kq2
      have kp3' := ((bcell hb).1 p' 0 hp1').trans kp'
      have kq3' := ((bcell hb).1 q' 0 hq1').trans kq'
      have hz3 := hb.size
      have hb := HA2.out.trans (hb.mono (by simp only [World.size_alloc]; omega))
      have hc3 := (bcell hb).1
      simp only [World.size_alloc] at hc3
      have HA3 := Lib.hid hb
      have HV := Lib.hid hv
      clear hb kp2 kq2 kp' kq' hv hc2
      go_wp2_with fail
      refine (HRG.out v w3 p q HV.out kp3 kq3).mono ?_
      rintro e w4 ⟨rfl, rfl⟩
      clear kp3 kq3
      go_wp2_with fail
      refine (HBA.out w3 (((Below.refl w.heap.size w).alloc (Nat.le_refl _) _).trans (HA3.out.mono (by simp)))).mono ?_
      rintro e w4 ⟨rfl, hb⟩
      have kp4' := ((bcell hb).1 p' 0 (by omega)).trans kp3'
      have kq4' := ((bcell hb).1 q' 0 (by omega)).trans kq3'
      have hz4 := hb.size
      have hb := HA3.out.trans (hb.mono (by simp only [World.size_alloc]; omega))
      have hc4 := (bcell hb).1
      simp only [World.size_alloc] at hc4
      have HA4 := Lib.hid hb
      clear hb hc3
      go_wp2_with fail
      go_ret
      exact ⟨rfl, ((Below.refl w.heap.size w).alloc (Nat.le_refl _) _).trans (HA4.out.mono (by simp))⟩
    cases z1
    · obtain rfl : false = x := by simpa using hx
      go_enter Tryz.func115, Tryz.ntmps115
      go_wp2_with fail
      refine (from_any 0 1099511627776 _).mono ?_
      rintro e w1 ⟨p, q, rfl, hp0, hp1, hq0, hq1, kp, kq, hb⟩
      have hz1 := hb.size
      have hc1 := (bcell hb).1
      simp only [World.size_alloc] at hz1 hp0 hq0 hc1
      have HA1 := Lib.hid hb
      clear hb
      go_wp2_with fail
      refine (from_any 0 0 _).mono ?_
      rintro e w2 ⟨p', q', rfl, hp0', hp1', hq0', hq1', kp', kq', hb⟩
      have kp2 := ((bcell hb).1 p 0 hp1).trans kp
      have kq2 := ((bcell hb).1 q 0 hq1).trans kq
      have hz2 := hb.size
      have hb := HA1.out.trans (hb.mono (by simp only [World.size_alloc]; omega))
      have hc2 := (bcell hb).1
      simp only [World.size_alloc] at hc2
      have HA2 := Lib.hid hb
      clear hb kp kq HA1 hc1
      go_wp2_with fail
      refine (HNU.out _).mono ?_
      rintro e w3 ⟨v, rfl, hv, hb⟩
      have kp3 := ((bcell hb).1 p 0 (by omega)).trans kp2
      have kq3 := ((bcell hb).1 q 0 (by omega)).trans kq2
      have kp3' := ((bcell hb).1 p' 0 hp1').trans kp'
      have kq3' := ((bcell hb).1 q' 0 hq1').trans kq'
      have hz3 := hb.size
      have hb := HA2.out.trans (hb.mono (by simp only [World.size_alloc]; omega))
      have hc3 := (bcell hb).1
      simp only [World.size_alloc] at hc3
      have HA3 := Lib.hid hb
      have HV := Lib.hid hv
      clear hb kp2 kq2 kp' kq' hv hc2
      go_wp2_with fail
      refine (HRG.out v w3 p q HV.out kp3 kq3).mono ?_
      rintro e w4 ⟨rfl, rfl⟩
      clear kp3 kq3
      go_wp2_with fail
      refine (HBA.out w3 (((Below.refl w.heap.size w).alloc (Nat.le_refl _) _).trans (HA3.out.mono (by simp)))).mono ?_
      rintro e w4 ⟨rfl, hb⟩
      have kp4' := ((bcell hb).1 p' 0 (by omega)).trans kp3'
      have kq4' := ((bcell hb).1 q' 0 (by omega)).trans kq3'
      have hz4 := hb.size
      have hb := HA3.out.trans (hb.mono (by simp only [World.size_alloc]; omega))
      have hc4 := (bcell hb).1
      simp only [World.size_alloc] at hc4
      have HA4 := Lib.hid hb
      clear hb hc3
      go_wp2_with fail
      refine (HR1.out w4 p' q' kp4' kq4' (by omega) (by omega)).mono ?_
      rintro e w5 ⟨rfl, hb⟩
      have hz5 := hb.size
      have hb := HA4.out.trans (hb.mono (by simp only [World.size_alloc]; omega))
      have hc5 := (bcell hb).1
      simp only [World.size_alloc] at hc5
      have HA5 := Lib.hid hb
      clear hb hc4
      go_wp2_with fail
      go_ret
      exact ⟨rfl, ((Below.refl w.heap.size w).alloc (Nat.le_refl _) _).trans (HA5.out.mono (by simp))⟩
    by_cases hb1 : body.size ≤ 1024
    · rw [decide_eq_true hb1] at hx
      obtain rfl : zn = x := by simpa using hx
      have hb2 : (body.size : Int) ≤ 1024 := by omega
      cases zn
      · go_enter Tryz.func115, Tryz.ntmps115
        go_wp2_with fail
        refine (from_any 0 1099511627776 _).mono ?_
        rintro e w1 ⟨p, q, rfl, hp0, hp1, hq0, hq1, kp, kq, hb⟩
        have hz1 := hb.size
        have hc1 := (bcell hb).1
        simp only [World.size_alloc] at hz1 hp0 hq0 hc1
        have HA1 := Lib.hid hb
        clear hb
        go_wp2_with fail
        refine (from_any 0 0 _).mono ?_
        rintro e w2 ⟨p', q', rfl, hp0', hp1', hq0', hq1', kp', kq', hb⟩
        have kp2 := ((bcell hb).1 p 0 hp1).trans kp
        have kq2 := ((bcell hb).1 q 0 hq1).trans kq
        have hz2 := hb.size
        have hb := HA1.out.trans (hb.mono (by simp only [World.size_alloc]; omega))
        have hc2 := (bcell hb).1
        simp only [World.size_alloc] at hc2
        have HA2 := Lib.hid hb
        clear hb kp kq HA1 hc1
        go_wp2_with fail
        refine (HNU.out _).mono ?_
        rintro e w3 ⟨v, rfl, hv, hb⟩
        have kp3 := ((bcell hb).1 p 0 (by omega)).trans kp2
        have kq3 := ((bcell hb).1 q 0 (by omega)).trans kq2
        have kp3' := ((bcell hb).1 p' 0 hp1').trans kp'
        have kq3' := ((bcell hb).1 q' 0 hq1').trans kq'
        have hz3 := hb.size
        have hb := HA2.out.trans (hb.mono (by simp only [World.size_alloc]; omega))
        have hc3 := (bcell hb).1
        simp only [World.size_alloc] at hc3
        have HA3 := Lib.hid hb
        have HV := Lib.hid hv
        clear hb kp2 kq2 kp' kq' hv hc2
        go_wp2_with fail
        refine (HRG.out v w3 p q HV.out kp3 kq3).mono ?_
        rintro e w4 ⟨rfl, rfl⟩
        clear kp3 kq3
        go_wp2_with fail
        refine (HBA.out w3 (((Below.refl w.heap.size w).alloc (Nat.le_refl _) _).trans (HA3.out.mono (by simp)))).mono ?_
        rintro e w4 ⟨rfl, hb⟩
        have kp4' := ((bcell hb).1 p' 0 (by omega)).trans kp3'
        have kq4' := ((bcell hb).1 q' 0 (by omega)).trans kq3'
        have hz4 := hb.size
        have hb := HA3.out.trans (hb.mono (by simp only [World.size_alloc]; omega))
        have hc4 := (bcell hb).1
        simp only [World.size_alloc] at hc4
        have HA4 := Lib.hid hb
        clear hb hc3
        go_wp2_with fail
        refine (HR1.out w4 p' q' kp4' kq4' (by omega) (by omega)).mono ?_
        rintro e w5 ⟨rfl, hb⟩
        have hz5 := hb.size
        have hb := HA4.out.trans (hb.mono (by simp only [World.size_alloc]; omega))
        have hc5 := (bcell hb).1
        simp only [World.size_alloc] at hc5
        have HA5 := Lib.hid hb
        clear hb hc4
        go_wp2_with fail
        refine (HNO.out _).mono ?_
        rintro e w6 ⟨rfl, hb⟩
        have hz6 := hb.size
        have hb := HA5.out.trans (hb.mono (by simp only [World.size_alloc]; omega))
        have hc6 := (bcell hb).1
        simp only [World.size_alloc] at hc6
        have HA6 := Lib.hid hb
        clear hb hc5
        go_wp2_with fail
        go_ret
        exact ⟨rfl, ((Below.refl w.heap.size w).alloc (Nat.le_refl _) _).trans (HA6.out.mono (by simp))⟩
      · go_enter Tryz.func115, Tryz.ntmps115
        go_wp2_with fail
        refine (from_any 0 1099511627776 _).mono ?_
        rintro e w1 ⟨p, q, rfl, hp0, hp1, hq0, hq1, kp, kq, hb⟩
        have hz1 := hb.size
        have hc1 := (bcell hb).1
        simp only [World.size_alloc] at hz1 hp0 hq0 hc1
        have HA1 := Lib.hid hb
        clear hb
        go_wp2_with fail
        refine (from_any 0 0 _).mono ?_
        rintro e w2 ⟨p', q', rfl, hp0', hp1', hq0', hq1', kp', kq', hb⟩
        have kp2 := ((bcell hb).1 p 0 hp1).trans kp
        have kq2 := ((bcell hb).1 q 0 hq1).trans kq
        have hz2 := hb.size
        have hb := HA1.out.trans (hb.mono (by simp only [World.size_alloc]; omega))
        have hc2 := (bcell hb).1
        simp only [World.size_alloc] at hc2
        have HA2 := Lib.hid hb
        clear hb kp kq HA1 hc1
        go_wp2_with fail
        refine (HNU.out _).mono ?_
        rintro e w3 ⟨v, rfl, hv, hb⟩
        have kp3 := ((bcell hb).1 p 0 (by omega)).trans kp2
        have kq3 := ((bcell hb).1 q 0 (by omega)).trans kq2
        have kp3' := ((bcell hb).1 p' 0 hp1').trans kp'
        have kq3' := ((bcell hb).1 q' 0 hq1').trans kq'
        have hz3 := hb.size
        have hb := HA2.out.trans (hb.mono (by simp only [World.size_alloc]; omega))
        have hc3 := (bcell hb).1
        simp only [World.size_alloc] at hc3
        have HA3 := Lib.hid hb
        have HV := Lib.hid hv
        clear hb kp2 kq2 kp' kq' hv hc2
        go_wp2_with fail
        refine (HRG.out v w3 p q HV.out kp3 kq3).mono ?_
        rintro e w4 ⟨rfl, rfl⟩
        clear kp3 kq3
        go_wp2_with fail
        refine (HBA.out w3 (((Below.refl w.heap.size w).alloc (Nat.le_refl _) _).trans (HA3.out.mono (by simp)))).mono ?_
        rintro e w4 ⟨rfl, hb⟩
        have kp4' := ((bcell hb).1 p' 0 (by omega)).trans kp3'
        have kq4' := ((bcell hb).1 q' 0 (by omega)).trans kq3'
        have hz4 := hb.size
        have hb := HA3.out.trans (hb.mono (by simp only [World.size_alloc]; omega))
        have hc4 := (bcell hb).1
        simp only [World.size_alloc] at hc4
        have HA4 := Lib.hid hb
        clear hb hc3
        go_wp2_with fail
        refine (HR1.out w4 p' q' kp4' kq4' (by omega) (by omega)).mono ?_
        rintro e w5 ⟨rfl, hb⟩
        have hz5 := hb.size
        have hb := HA4.out.trans (hb.mono (by simp only [World.size_alloc]; omega))
        have hc5 := (bcell hb).1
        simp only [World.size_alloc] at hc5
        have HA5 := Lib.hid hb
        clear hb hc4
        go_wp2_with fail
        refine (HNO.out _).mono ?_
        rintro e w6 ⟨rfl, hb⟩
        have hz6 := hb.size
        have hb := HA5.out.trans (hb.mono (by simp only [World.size_alloc]; omega))
        have hc6 := (bcell hb).1
        simp only [World.size_alloc] at hc6
        have HA6 := Lib.hid hb
        clear hb hc5
        go_wp2_with fail
        go_ret
        exact ⟨rfl, ((Below.refl w.heap.size w).alloc (Nat.le_refl _) _).trans (HA6.out.mono (by simp))⟩
    · rw [decide_eq_false hb1] at hx
      obtain rfl : false = x := by simpa using hx
      have hb2 : decide ((body.size : Int) ≤ 1024) = false := decide_eq_false (by omega)
      go_enter Tryz.func115, Tryz.ntmps115
      go_wp2_with fail
      refine (from_any 0 1099511627776 _).mono ?_
      rintro e w1 ⟨p, q, rfl, hp0, hp1, hq0, hq1, kp, kq, hb⟩
      have hz1 := hb.size
      have hc1 := (bcell hb).1
      simp only [World.size_alloc] at hz1 hp0 hq0 hc1
      have HA1 := Lib.hid hb
      clear hb
      go_wp2_with fail
      refine (from_any 0 0 _).mono ?_
      rintro e w2 ⟨p', q', rfl, hp0', hp1', hq0', hq1', kp', kq', hb⟩
      have kp2 := ((bcell hb).1 p 0 hp1).trans kp
      have kq2 := ((bcell hb).1 q 0 hq1).trans kq
      have hz2 := hb.size
      have hb := HA1.out.trans (hb.mono (by simp only [World.size_alloc]; omega))
      have hc2 := (bcell hb).1
      simp only [World.size_alloc] at hc2
      have HA2 := Lib.hid hb
      clear hb kp kq HA1 hc1
      go_wp2_with fail
      refine (HNU.out _).mono ?_
      rintro e w3 ⟨v, rfl, hv, hb⟩
      have kp3 := ((bcell hb).1 p 0 (by omega)).trans kp2
      have kq3 := ((bcell hb).1 q 0 (by omega)).trans kq2
      have kp3' := ((bcell hb).1 p' 0 hp1').trans kp'
      have kq3' := ((bcell hb).1 q' 0 hq1').trans kq'
      have hz3 := hb.size
      have hb := HA2.out.trans (hb.mono (by simp only [World.size_alloc]; omega))
      have hc3 := (bcell hb).1
      simp only [World.size_alloc] at hc3
      have HA3 := Lib.hid hb
      have HV := Lib.hid hv
      clear hb kp2 kq2 kp' kq' hv hc2
      go_wp2_with fail
      refine (HRG.out v w3 p q HV.out kp3 kq3).mono ?_
      rintro e w4 ⟨rfl, rfl⟩
      clear kp3 kq3
      go_wp2_with fail
      refine (HBA.out w3 (((Below.refl w.heap.size w).alloc (Nat.le_refl _) _).trans (HA3.out.mono (by simp)))).mono ?_
      rintro e w4 ⟨rfl, hb⟩
      have kp4' := ((bcell hb).1 p' 0 (by omega)).trans kp3'
      have kq4' := ((bcell hb).1 q' 0 (by omega)).trans kq3'
      have hz4 := hb.size
      have hb := HA3.out.trans (hb.mono (by simp only [World.size_alloc]; omega))
      have hc4 := (bcell hb).1
      simp only [World.size_alloc] at hc4
      have HA4 := Lib.hid hb
      clear hb hc3
      go_wp2_with fail
      refine (HR1.out w4 p' q' kp4' kq4' (by omega) (by omega)).mono ?_
      rintro e w5 ⟨rfl, hb⟩
      have hz5 := hb.size
      have hb := HA4.out.trans (hb.mono (by simp only [World.size_alloc]; omega))
      have hc5 := (bcell hb).1
      simp only [World.size_alloc] at hc5
      have HA5 := Lib.hid hb
      clear hb hc4
      go_wp2_with fail
      go_ret
      exact ⟨rfl, ((Below.refl w.heap.size w).alloc (Nat.le_refl _) _).trans (HA5.out.mono (by simp))⟩
  rw [if_neg hk0] at hx
  have k0 : (kind == 0) = false := by simpa using hk0
  by_cases hk1 : kind = 1
  · subst hk1
    rw [if_pos rfl] at hx
    clear k0 hk0
    cases zw
    · obtain rfl : false = x := by simpa using hx
      go_enter Tryz.func115, Tryz.ntmps115
      go_wp2_with fail
      refine (from_any 0 1099511627776 _).mono ?_
      rintro e w1 ⟨p, q, rfl, hp0, hp1, hq0, hq1, kp, kq, hb⟩
      have hz1 := hb.size
      have hc1 := (bcell hb).1
      simp only [World.size_alloc] at hz1 hp0 hq0 hc1
      have HA1 := Lib.hid hb
      clear hb
      go_wp2_with fail
      refine (from_any 0 0 _).mono ?_
      rintro e w2 ⟨p', q', rfl, hp0', hp1', hq0', hq1', kp', kq', hb⟩
      have kp2 := ((bcell hb).1 p 0 hp1).trans kp
      have kq2 := ((bcell hb).1 q 0 hq1).trans kq
      have hz2 := hb.size
      have hb := HA1.out.trans (hb.mono (by simp only [World.size_alloc]; omega))
      have hc2 := (bcell hb).1
      simp only [World.size_alloc] at hc2
      have HA2 := Lib.hid hb
      clear hb kp kq HA1 hc1
      go_wp2_with fail
      refine (HNU.out _).mono ?_
      rintro e w3 ⟨v, rfl, hv, hb⟩
      have kp3 := ((bcell hb).1 p 0 (by omega)).trans kp2
      have kq3 := ((bcell hb).1 q 0 (by omega)).trans kq2
      have kp3' := ((bcell hb).1 p' 0 hp1').trans kp'
      have kq3' := ((bcell hb).1 q' 0 hq1').trans kq'
      have hz3 := hb.size
      have hb := HA2.out.trans (hb.mono (by simp only [World.size_alloc]; omega))
      have hc3 := (bcell hb).1
      simp only [World.size_alloc] at hc3
      have HA3 := Lib.hid hb
      have HV := Lib.hid hv
      clear hb kp2 kq2 kp' kq' hv hc2
      go_wp2_with fail
      refine (HRG.out v w3 p q HV.out kp3 kq3).mono ?_
      rintro e w4 ⟨rfl, rfl⟩
      clear kp3 kq3
      go_wp2_with fail
      refine (HWH.out w3 (((Below.refl w.heap.size w).alloc (Nat.le_refl _) _).trans (HA3.out.mono (by simp)))).mono ?_
      rintro e w4 ⟨rfl, hb⟩
      have kp4' := ((bcell hb).1 p' 0 (by omega)).trans kp3'
      have kq4' := ((bcell hb).1 q' 0 (by omega)).trans kq3'
      have hz4 := hb.size
      have hb := HA3.out.trans (hb.mono (by simp only [World.size_alloc]; omega))
      have hc4 := (bcell hb).1
      simp only [World.size_alloc] at hc4
      have HA4 := Lib.hid hb
      clear hb hc3
      go_wp2_with fail
      go_ret
      exact ⟨rfl, ((Below.refl w.heap.size w).alloc (Nat.le_refl _) _).trans (HA4.out.mono (by simp))⟩
    obtain rfl : z2 = x := by simpa using hx
    cases z2
    · go_enter Tryz.func115, Tryz.ntmps115
      go_wp2_with fail
      refine (from_any 0 1099511627776 _).mono ?_
      rintro e w1 ⟨p, q, rfl, hp0, hp1, hq0, hq1, kp, kq, hb⟩
      have hz1 := hb.size
      have hc1 := (bcell hb).1
      simp only [World.size_alloc] at hz1 hp0 hq0 hc1
      have HA1 := Lib.hid hb
      clear hb
      go_wp2_with fail
      refine (from_any 0 0 _).mono ?_
      rintro e w2 ⟨p', q', rfl, hp0', hp1', hq0', hq1', kp', kq', hb⟩
      have kp2 := ((bcell hb).1 p 0 hp1).trans kp
      have kq2 := ((bcell hb).1 q 0 hq1).trans kq
      have hz2 := hb.size
      have hb := HA1.out.trans (hb.mono (by simp only [World.size_alloc]; omega))
      have hc2 := (bcell hb).1
      simp only [World.size_alloc] at hc2
      have HA2 := Lib.hid hb
      clear hb kp kq HA1 hc1
      go_wp2_with fail
      refine (HNU.out _).mono ?_
      rintro e w3 ⟨v, rfl, hv, hb⟩
      have kp3 := ((bcell hb).1 p 0 (by omega)).trans kp2
      have kq3 := ((bcell hb).1 q 0 (by omega)).trans kq2
      have kp3' := ((bcell hb).1 p' 0 hp1').trans kp'
      have kq3' := ((bcell hb).1 q' 0 hq1').trans kq'
      have hz3 := hb.size
      have hb := HA2.out.trans (hb.mono (by simp only [World.size_alloc]; omega))
      have hc3 := (bcell hb).1
      simp only [World.size_alloc] at hc3
      have HA3 := Lib.hid hb
      have HV := Lib.hid hv
      clear hb kp2 kq2 kp' kq' hv hc2
      go_wp2_with fail
      refine (HRG.out v w3 p q HV.out kp3 kq3).mono ?_
      rintro e w4 ⟨rfl, rfl⟩
      clear kp3 kq3
      go_wp2_with fail
      refine (HWH.out w3 (((Below.refl w.heap.size w).alloc (Nat.le_refl _) _).trans (HA3.out.mono (by simp)))).mono ?_
      rintro e w4 ⟨rfl, hb⟩
      have kp4' := ((bcell hb).1 p' 0 (by omega)).trans kp3'
      have kq4' := ((bcell hb).1 q' 0 (by omega)).trans kq3'
      have hz4 := hb.size
      have hb := HA3.out.trans (hb.mono (by simp only [World.size_alloc]; omega))
      have hc4 := (bcell hb).1
      simp only [World.size_alloc] at hc4
      have HA4 := Lib.hid hb
      clear hb hc3
      go_wp2_with fail
      refine (HR2.out w4 p' q' kp4' kq4' (by omega) (by omega)).mono ?_
      rintro e w5 ⟨rfl, hb⟩
      have hz5 := hb.size
      have hb := HA4.out.trans (hb.mono (by simp only [World.size_alloc]; omega))
      have hc5 := (bcell hb).1
      simp only [World.size_alloc] at hc5
      have HA5 := Lib.hid hb
      clear hb hc4
      go_wp2_with fail
      go_ret
      exact ⟨rfl, ((Below.refl w.heap.size w).alloc (Nat.le_refl _) _).trans (HA5.out.mono (by simp))⟩
    · go_enter Tryz.func115, Tryz.ntmps115
      go_wp2_with fail
      refine (from_any 0 1099511627776 _).mono ?_
      rintro e w1 ⟨p, q, rfl, hp0, hp1, hq0, hq1, kp, kq, hb⟩
      have hz1 := hb.size
      have hc1 := (bcell hb).1
      simp only [World.size_alloc] at hz1 hp0 hq0 hc1
      have HA1 := Lib.hid hb
      clear hb
      go_wp2_with fail
      refine (from_any 0 0 _).mono ?_
      rintro e w2 ⟨p', q', rfl, hp0', hp1', hq0', hq1', kp', kq', hb⟩
      have kp2 := ((bcell hb).1 p 0 hp1).trans kp
      have kq2 := ((bcell hb).1 q 0 hq1).trans kq
      have hz2 := hb.size
      have hb := HA1.out.trans (hb.mono (by simp only [World.size_alloc]; omega))
      have hc2 := (bcell hb).1
      simp only [World.size_alloc] at hc2
      have HA2 := Lib.hid hb
      clear hb kp kq HA1 hc1
      go_wp2_with fail
      refine (HNU.out _).mono ?_
      rintro e w3 ⟨v, rfl, hv, hb⟩
      have kp3 := ((bcell hb).1 p 0 (by omega)).trans kp2
      have kq3 := ((bcell hb).1 q 0 (by omega)).trans kq2
      have kp3' := ((bcell hb).1 p' 0 hp1').trans kp'
      have kq3' := ((bcell hb).1 q' 0 hq1').trans kq'
      have hz3 := hb.size
      have hb := HA2.out.trans (hb.mono (by simp only [World.size_alloc]; omega))
      have hc3 := (bcell hb).1
      simp only [World.size_alloc] at hc3
      have HA3 := Lib.hid hb
      have HV := Lib.hid hv
      clear hb kp2 kq2 kp' kq' hv hc2
      go_wp2_with fail
      refine (HRG.out v w3 p q HV.out kp3 kq3).mono ?_
      rintro e w4 ⟨rfl, rfl⟩
      clear kp3 kq3
      go_wp2_with fail
      refine (HWH.out w3 (((Below.refl w.heap.size w).alloc (Nat.le_refl _) _).trans (HA3.out.mono (by simp)))).mono ?_
      rintro e w4 ⟨rfl, hb⟩
      have kp4' := ((bcell hb).1 p' 0 (by omega)).trans kp3'
      have kq4' := ((bcell hb).1 q' 0 (by omega)).trans kq3'
      have hz4 := hb.size
      have hb := HA3.out.trans (hb.mono (by simp only [World.size_alloc]; omega))
      have hc4 := (bcell hb).1
      simp only [World.size_alloc] at hc4
      have HA4 := Lib.hid hb
      clear hb hc3
      go_wp2_with fail
      refine (HR2.out w4 p' q' kp4' kq4' (by omega) (by omega)).mono ?_
      rintro e w5 ⟨rfl, hb⟩
      have hz5 := hb.size
      have hb := HA4.out.trans (hb.mono (by simp only [World.size_alloc]; omega))
      have hc5 := (bcell hb).1
      simp only [World.size_alloc] at hc5
      have HA5 := Lib.hid hb
      clear hb hc4
      go_wp2_with fail
      go_ret
      exact ⟨rfl, ((Below.refl w.heap.size w).alloc (Nat.le_refl _) _).trans (HA5.out.mono (by simp))⟩
  rw [if_neg hk1] at hx
  have k1 : (kind == 1) = false := by simpa using hk1
  by_cases hk2 : kind = 2
  · subst hk2
    rw [if_pos (.inl rfl)] at hx
    clear k0 k1 hk0 hk1
    obtain rfl : zw = x := by simpa using hx
    go_enter Tryz.func115, Tryz.ntmps115
    go_wp2_with fail
    refine (from_any 0 1099511627776 _).mono ?_
    rintro e w1 ⟨p, q, rfl, hp0, hp1, hq0, hq1, kp, kq, hb⟩
    have hz1 := hb.size
    have hc1 := (bcell hb).1
    simp only [World.size_alloc] at hz1 hp0 hq0 hc1
    have HA1 := Lib.hid hb
    clear hb
    go_wp2_with fail
    refine (from_any 0 0 _).mono ?_
    rintro e w2 ⟨p', q', rfl, hp0', hp1', hq0', hq1', kp', kq', hb⟩
    have kp2 := ((bcell hb).1 p 0 hp1).trans kp
    have kq2 := ((bcell hb).1 q 0 hq1).trans kq
    have hz2 := hb.size
    have hb := HA1.out.trans (hb.mono (by simp only [World.size_alloc]; omega))
    have hc2 := (bcell hb).1
    simp only [World.size_alloc] at hc2
    have HA2 := Lib.hid hb
    clear hb kp kq HA1 hc1
    go_wp2_with fail
    refine (HNU.out _).mono ?_
    rintro e w3 ⟨v, rfl, hv, hb⟩
    have kp3 := ((bcell hb).1 p 0 (by omega)).trans kp2
    have kq3 := ((bcell hb).1 q 0 (by omega)).trans kq2
    have kp3' := ((bcell hb).1 p' 0 hp1').trans kp'
    have kq3' := ((bcell hb).1 q' 0 hq1').trans kq'
    have hz3 := hb.size
    have hb := HA2.out.trans (hb.mono (by simp only [World.size_alloc]; omega))
    have hc3 := (bcell hb).1
    simp only [World.size_alloc] at hc3
    have HA3 := Lib.hid hb
    have HV := Lib.hid hv
    clear hb kp2 kq2 kp' kq' hv hc2
    go_wp2_with fail
    refine (HRG.out v w3 p q HV.out kp3 kq3).mono ?_
    rintro e w4 ⟨rfl, rfl⟩
    clear kp3 kq3
    go_wp2_with fail
    refine (HWH.out w3 (((Below.refl w.heap.size w).alloc (Nat.le_refl _) _).trans (HA3.out.mono (by simp)))).mono ?_
    rintro e w4 ⟨rfl, hb⟩
    have kp4' := ((bcell hb).1 p' 0 (by omega)).trans kp3'
    have kq4' := ((bcell hb).1 q' 0 (by omega)).trans kq3'
    have hz4 := hb.size
    have hb := HA3.out.trans (hb.mono (by simp only [World.size_alloc]; omega))
    have hc4 := (bcell hb).1
    simp only [World.size_alloc] at hc4
    have HA4 := Lib.hid hb
    clear hb hc3
    go_wp2_with fail
    go_ret
    exact ⟨rfl, ((Below.refl w.heap.size w).alloc (Nat.le_refl _) _).trans (HA4.out.mono (by simp))⟩
  have k2 : (kind == 2) = false := by simpa using hk2
  by_cases hk3 : kind = 3
  · subst hk3
    rw [if_pos (.inr rfl)] at hx
    clear k0 k1 k2 hk0 hk1 hk2
    obtain rfl : zw = x := by simpa using hx
    go_enter Tryz.func115, Tryz.ntmps115
    go_wp2_with fail
    refine (from_any 0 1099511627776 _).mono ?_
    rintro e w1 ⟨p, q, rfl, hp0, hp1, hq0, hq1, kp, kq, hb⟩
    have hz1 := hb.size
    have hc1 := (bcell hb).1
    simp only [World.size_alloc] at hz1 hp0 hq0 hc1
    have HA1 := Lib.hid hb
    clear hb
    go_wp2_with fail
    refine (from_any 0 0 _).mono ?_
    rintro e w2 ⟨p', q', rfl, hp0', hp1', hq0', hq1', kp', kq', hb⟩
    have kp2 := ((bcell hb).1 p 0 hp1).trans kp
    have kq2 := ((bcell hb).1 q 0 hq1).trans kq
    have hz2 := hb.size
    have hb := HA1.out.trans (hb.mono (by simp only [World.size_alloc]; omega))
    have hc2 := (bcell hb).1
    simp only [World.size_alloc] at hc2
    have HA2 := Lib.hid hb
    clear hb kp kq HA1 hc1
    go_wp2_with fail
    refine (HNU.out _).mono ?_
    rintro e w3 ⟨v, rfl, hv, hb⟩
    have kp3 := ((bcell hb).1 p 0 (by omega)).trans kp2
    have kq3 := ((bcell hb).1 q 0 (by omega)).trans kq2
    have kp3' := ((bcell hb).1 p' 0 hp1').trans kp'
    have kq3' := ((bcell hb).1 q' 0 hq1').trans kq'
    have hz3 := hb.size
    have hb := HA2.out.trans (hb.mono (by simp only [World.size_alloc]; omega))
    have hc3 := (bcell hb).1
    simp only [World.size_alloc] at hc3
    have HA3 := Lib.hid hb
    have HV := Lib.hid hv
    clear hb kp2 kq2 kp' kq' hv hc2
    go_wp2_with fail
    refine (HRG.out v w3 p q HV.out kp3 kq3).mono ?_
    rintro e w4 ⟨rfl, rfl⟩
    clear kp3 kq3
    go_wp2_with fail
    refine (HWH.out w3 (((Below.refl w.heap.size w).alloc (Nat.le_refl _) _).trans (HA3.out.mono (by simp)))).mono ?_
    rintro e w4 ⟨rfl, hb⟩
    have kp4' := ((bcell hb).1 p' 0 (by omega)).trans kp3'
    have kq4' := ((bcell hb).1 q' 0 (by omega)).trans kq3'
    have hz4 := hb.size
    have hb := HA3.out.trans (hb.mono (by simp only [World.size_alloc]; omega))
    have hc4 := (bcell hb).1
    simp only [World.size_alloc] at hc4
    have HA4 := Lib.hid hb
    clear hb hc3
    go_wp2_with fail
    go_ret
    exact ⟨rfl, ((Below.refl w.heap.size w).alloc (Nat.le_refl _) _).trans (HA4.out.mono (by simp))⟩
  rw [if_neg (fun h => h.elim hk2 hk3)] at hx
  have k3 : (kind == 3) = false := by simpa using hk3
  by_cases hk4 : kind = 4
  · subst hk4
    rw [if_pos rfl] at hx
    clear k0 k1 k2 k3 hk0 hk1 hk2 hk3
    cases zb
    · obtain rfl : false = x := by simpa using hx
      go_enter Tryz.func115, Tryz.ntmps115
      go_wp2_with fail
      refine (from_any 0 1099511627776 _).mono ?_
      rintro e w1 ⟨p, q, rfl, hp0, hp1, hq0, hq1, kp, kq, hb⟩
      have hz1 := hb.size
      have hc1 := (bcell hb).1
      simp only [World.size_alloc] at hz1 hp0 hq0 hc1
      have HA1 := Lib.hid hb
      clear hb
      go_wp2_with fail
      refine (from_any 0 0 _).mono ?_
      rintro e w2 ⟨p', q', rfl, hp0', hp1', hq0', hq1', kp', kq', hb⟩
      have kp2 := ((bcell hb).1 p 0 hp1).trans kp
      have kq2 := ((bcell hb).1 q 0 hq1).trans kq
      have hz2 := hb.size
      have hb := HA1.out.trans (hb.mono (by simp only [World.size_alloc]; omega))
      have hc2 := (bcell hb).1
      simp only [World.size_alloc] at hc2
      have HA2 := Lib.hid hb
      clear hb kp kq HA1 hc1
      go_wp2_with fail
      refine (HNU.out _).mono ?_
      rintro e w3 ⟨v, rfl, hv, hb⟩
      have kp3 := ((bcell hb).1 p 0 (by omega)).trans kp2
      have kq3 := ((bcell hb).1 q 0 (by omega)).trans kq2
      have kp3' := ((bcell hb).1 p' 0 hp1').trans kp'
      have kq3' := ((bcell hb).1 q' 0 hq1').trans kq'
      have hz3 := hb.size
      have hb := HA2.out.trans (hb.mono (by simp only [World.size_alloc]; omega))
      have hc3 := (bcell hb).1
      simp only [World.size_alloc] at hc3
      have HA3 := Lib.hid hb
      have HV := Lib.hid hv
      clear hb kp2 kq2 kp' kq' hv hc2
      go_wp2_with fail
      refine (HRG.out v w3 p q HV.out kp3 kq3).mono ?_
      rintro e w4 ⟨rfl, rfl⟩
      clear kp3 kq3
      go_wp2_with fail
      refine (HBA.out w3 (((Below.refl w.heap.size w).alloc (Nat.le_refl _) _).trans (HA3.out.mono (by simp)))).mono ?_
      rintro e w4 ⟨rfl, hb⟩
      have kp4' := ((bcell hb).1 p' 0 (by omega)).trans kp3'
      have kq4' := ((bcell hb).1 q' 0 (by omega)).trans kq3'
      have hz4 := hb.size
      have hb := HA3.out.trans (hb.mono (by simp only [World.size_alloc]; omega))
      have hc4 := (bcell hb).1
      simp only [World.size_alloc] at hc4
      have HA4 := Lib.hid hb
      clear hb hc3
      go_wp2_with fail
      go_ret
      exact ⟨rfl, ((Below.refl w.heap.size w).alloc (Nat.le_refl _) _).trans (HA4.out.mono (by simp))⟩
    cases hbe : body.toList.isEmpty
    · rw [hbe] at hx
      obtain rfl : false = x := by simpa using hx
      go_enter Tryz.func115, Tryz.ntmps115
      go_wp2_with fail
      refine (from_any 0 1099511627776 _).mono ?_
      rintro e w1 ⟨p, q, rfl, hp0, hp1, hq0, hq1, kp, kq, hb⟩
      have hz1 := hb.size
      have hc1 := (bcell hb).1
      simp only [World.size_alloc] at hz1 hp0 hq0 hc1
      have HA1 := Lib.hid hb
      clear hb
      go_wp2_with fail
      refine (from_any 0 0 _).mono ?_
      rintro e w2 ⟨p', q', rfl, hp0', hp1', hq0', hq1', kp', kq', hb⟩
      have kp2 := ((bcell hb).1 p 0 hp1).trans kp
      have kq2 := ((bcell hb).1 q 0 hq1).trans kq
      have hz2 := hb.size
      have hb := HA1.out.trans (hb.mono (by simp only [World.size_alloc]; omega))
      have hc2 := (bcell hb).1
      simp only [World.size_alloc] at hc2
      have HA2 := Lib.hid hb
      clear hb kp kq HA1 hc1
      go_wp2_with fail
      refine (HNU.out _).mono ?_
      rintro e w3 ⟨v, rfl, hv, hb⟩
      have kp3 := ((bcell hb).1 p 0 (by omega)).trans kp2
      have kq3 := ((bcell hb).1 q 0 (by omega)).trans kq2
      have kp3' := ((bcell hb).1 p' 0 hp1').trans kp'
      have kq3' := ((bcell hb).1 q' 0 hq1').trans kq'
      have hz3 := hb.size
      have hb := HA2.out.trans (hb.mono (by simp only [World.size_alloc]; omega))
      have hc3 := (bcell hb).1
      simp only [World.size_alloc] at hc3
      have HA3 := Lib.hid hb
      have HV := Lib.hid hv
      clear hb kp2 kq2 kp' kq' hv hc2
      go_wp2_with fail
      refine (HRG.out v w3 p q HV.out kp3 kq3).mono ?_
      rintro e w4 ⟨rfl, rfl⟩
      clear kp3 kq3
      go_wp2_with fail
      refine (HBA.out w3 (((Below.refl w.heap.size w).alloc (Nat.le_refl _) _).trans (HA3.out.mono (by simp)))).mono ?_
      rintro e w4 ⟨rfl, hb⟩
      have kp4' := ((bcell hb).1 p' 0 (by omega)).trans kp3'
      have kq4' := ((bcell hb).1 q' 0 (by omega)).trans kq3'
      have hz4 := hb.size
      have hb := HA3.out.trans (hb.mono (by simp only [World.size_alloc]; omega))
      have hc4 := (bcell hb).1
      simp only [World.size_alloc] at hc4
      have HA4 := Lib.hid hb
      clear hb hc3
      go_wp2_with fail
      go_ret
      exact ⟨rfl, ((Below.refl w.heap.size w).alloc (Nat.le_refl _) _).trans (HA4.out.mono (by simp))⟩
    · rw [hbe] at hx
      obtain rfl : true = x := by simpa using hx
      go_enter Tryz.func115, Tryz.ntmps115
      go_wp2_with fail
      refine (from_any 0 1099511627776 _).mono ?_
      rintro e w1 ⟨p, q, rfl, hp0, hp1, hq0, hq1, kp, kq, hb⟩
      have hz1 := hb.size
      have hc1 := (bcell hb).1
      simp only [World.size_alloc] at hz1 hp0 hq0 hc1
      have HA1 := Lib.hid hb
      clear hb
      go_wp2_with fail
      refine (from_any 0 0 _).mono ?_
      rintro e w2 ⟨p', q', rfl, hp0', hp1', hq0', hq1', kp', kq', hb⟩
      have kp2 := ((bcell hb).1 p 0 hp1).trans kp
      have kq2 := ((bcell hb).1 q 0 hq1).trans kq
      have hz2 := hb.size
      have hb := HA1.out.trans (hb.mono (by simp only [World.size_alloc]; omega))
      have hc2 := (bcell hb).1
      simp only [World.size_alloc] at hc2
      have HA2 := Lib.hid hb
      clear hb kp kq HA1 hc1
      go_wp2_with fail
      refine (HNU.out _).mono ?_
      rintro e w3 ⟨v, rfl, hv, hb⟩
      have kp3 := ((bcell hb).1 p 0 (by omega)).trans kp2
      have kq3 := ((bcell hb).1 q 0 (by omega)).trans kq2
      have kp3' := ((bcell hb).1 p' 0 hp1').trans kp'
      have kq3' := ((bcell hb).1 q' 0 hq1').trans kq'
      have hz3 := hb.size
      have hb := HA2.out.trans (hb.mono (by simp only [World.size_alloc]; omega))
      have hc3 := (bcell hb).1
      simp only [World.size_alloc] at hc3
      have HA3 := Lib.hid hb
      have HV := Lib.hid hv
      clear hb kp2 kq2 kp' kq' hv hc2
      go_wp2_with fail
      refine (HRG.out v w3 p q HV.out kp3 kq3).mono ?_
      rintro e w4 ⟨rfl, rfl⟩
      clear kp3 kq3
      go_wp2_with fail
      refine (HBA.out w3 (((Below.refl w.heap.size w).alloc (Nat.le_refl _) _).trans (HA3.out.mono (by simp)))).mono ?_
      rintro e w4 ⟨rfl, hb⟩
      have kp4' := ((bcell hb).1 p' 0 (by omega)).trans kp3'
      have kq4' := ((bcell hb).1 q' 0 (by omega)).trans kq3'
      have hz4 := hb.size
      have hb := HA3.out.trans (hb.mono (by simp only [World.size_alloc]; omega))
      have hc4 := (bcell hb).1
      simp only [World.size_alloc] at hc4
      have HA4 := Lib.hid hb
      clear hb hc3
      go_wp2_with fail
      go_ret
      exact ⟨rfl, ((Below.refl w.heap.size w).alloc (Nat.le_refl _) _).trans (HA4.out.mono (by simp))⟩
  rw [if_neg hk4] at hx
  obtain rfl : false = x := by simpa using hx
  have k4 : (kind == 4) = false := by simpa using hk4
  clear hk0 hk1 hk2 hk3 hk4 hx
  go_enter Tryz.func115, Tryz.ntmps115
  go_wp2_with fail
  refine (from_any 0 1099511627776 _).mono ?_
  rintro e w1 ⟨p, q, rfl, hp0, hp1, hq0, hq1, kp, kq, hb⟩
  have hz1 := hb.size
  have hc1 := (bcell hb).1
  simp only [World.size_alloc] at hz1 hp0 hq0 hc1
  have HA1 := Lib.hid hb
  clear hb
  go_wp2_with fail
  refine (from_any 0 0 _).mono ?_
  rintro e w2 ⟨p', q', rfl, hp0', hp1', hq0', hq1', kp', kq', hb⟩
  have kp2 := ((bcell hb).1 p 0 hp1).trans kp
  have kq2 := ((bcell hb).1 q 0 hq1).trans kq
  have hz2 := hb.size
  have hb := HA1.out.trans (hb.mono (by simp only [World.size_alloc]; omega))
  have hc2 := (bcell hb).1
  simp only [World.size_alloc] at hc2
  have HA2 := Lib.hid hb
  clear hb kp kq HA1 hc1
  go_wp2_with fail
  refine (HNU.out _).mono ?_
  rintro e w3 ⟨v, rfl, hv, hb⟩
  have kp3 := ((bcell hb).1 p 0 (by omega)).trans kp2
  have kq3 := ((bcell hb).1 q 0 (by omega)).trans kq2
  have kp3' := ((bcell hb).1 p' 0 hp1').trans kp'
  have kq3' := ((bcell hb).1 q' 0 hq1').trans kq'
  have hz3 := hb.size
  have hb := HA2.out.trans (hb.mono (by simp only [World.size_alloc]; omega))
  have hc3 := (bcell hb).1
  simp only [World.size_alloc] at hc3
  have HA3 := Lib.hid hb
  have HV := Lib.hid hv
  clear hb kp2 kq2 kp' kq' hv hc2
  go_wp2_with fail
  refine (HRG.out v w3 p q HV.out kp3 kq3).mono ?_
  rintro e w4 ⟨rfl, rfl⟩
  clear kp3 kq3
  go_wp2_with fail
  go_ret
  exact ⟨rfl, ((Below.refl w.heap.size w).alloc (Nat.le_refl _) _).trans (HA3.out.mono (by simp))⟩
structure Bd (m : MsgM) : Prop where
  kind : 1 ≤ m.kind ∧ m.kind ≤ 4
  queue : 0 ≤ m.queue ∧ m.queue ≤ 2
  retry : 0 ≤ m.retry ∧ m.retry ≤ 4
  due : 0 ≤ m.due ∧ m.due ≤ 1099511627776
  ref : 0 ≤ m.ref ∧ m.ref ≤ 1099511627776
  born : 0 ≤ m.born ∧ m.born ≤ 1099511627776
  topic : m.topic.size ≤ 16
  tag : m.tag.size ≤ 16
  body : m.body.size ≤ 200
  many : m.keys.length ≤ 3
  keys : ∀ t ∈ m.keys, t.size ≤ 16
theorem allIn_iff {a b : Int} {zs : List Int} : allIn a b zs = true ↔ ∀ x ∈ zs, a ≤ x ∧ x ≤ b := by
  unfold allIn
  simp [List.all_eq_true]
theorem empty_size {s : ByteArray} (h : s.toList.isEmpty = true) : s.size = 0 := by
  rw [List.isEmpty_iff, ByteArray.toList_eq] at h
  have := congrArg List.length h
  rw [Array.length_toList] at this
  exact this
theorem plain_le {s : ByteArray} (h : plainB s = true) : s.size ≤ 16 := (okL_iff.1 h).2.1
theorem own_le {s h : ByteArray} (k : ownB s h = true) : s.size ≤ h.size + 8 := by
  unfold ownB at k
  rw [Bool.and_eq_true] at k
  have h1 := (okL_iff.1 k.2).2.1
  rw [ByteArray.size_extract] at h1
  omega
theorem topic_le {s : ByteArray} (h : topicB s = true) : s.size ≤ 16 := by
  unfold topicB isOwn at h
  rw [Bool.or_eq_true, Bool.or_eq_true] at h
  rcases h with (h | h) | h
  · have := own_le h
    have e : (retryH : ByteArray).size = 7 := rfl
    omega
  · have := own_le h
    have e : (deadH : ByteArray).size = 6 := rfl
    omega
  · exact plain_le h
theorem tag_le {s : ByteArray} (h : tagB s = true) : s.size ≤ 16 := by
  unfold tagB at h
  rw [Bool.or_eq_true] at h
  rcases h with h | h
  · rw [empty_size h]; omega
  · exact plain_le h
theorem whole_bd {m : MsgM} (h : wholeB m = true) : (0 ≤ m.queue ∧ m.queue ≤ 2) ∧ (0 ≤ m.retry ∧ m.retry ≤ 4) ∧ m.topic.size ≤ 16 ∧ m.tag.size ≤ 16 ∧ m.body.size ≤ 200 ∧ m.keys.length ≤ 3 ∧ ∀ t ∈ m.keys, t.size ≤ 16 := by
  unfold wholeB at h
  simp only [Bool.and_eq_true, decide_eq_true_eq] at h
  obtain ⟨h1, h2, h3, h4, h5, h6⟩ := h
  unfold keysB at h5
  simp only [Bool.and_eq_true, decide_eq_true_eq] at h5
  obtain ⟨k1, k2, k3⟩ := h5
  refine ⟨allIn_iff.1 h1 _ (by simp), allIn_iff.1 h2 _ (by simp), topic_le h3, tag_le h4, h6, k1, fun t ht => ?_⟩
  exact (okL_iff.1 (List.all_eq_true.1 k2 t ht)).2.1
theorem bare_bd {m : MsgM} (h : bareB m = true) : m.queue = 0 ∧ m.due = 0 ∧ m.retry = 0 ∧ m.keys = [] ∧ m.topic.size = 0 ∧ m.tag.size = 0 := by
  unfold bareB at h
  simp only [Bool.and_eq_true] at h
  obtain ⟨h1, h2, h3⟩ := h
  have h1 := allIn_iff.1 h1
  have a1 := h1 m.queue (by simp)
  have a2 := h1 m.due (by simp)
  have a3 := h1 m.retry (by simp)
  have a4 := h1 (m.keys.length : Int) (by simp)
  refine ⟨by omega, by omega, by omega, List.length_eq_zero_iff.1 (by omega), empty_size h2, empty_size h3⟩
theorem right_bd {m : MsgM} (h : rightB m = true) (hk : m.kind ≠ 0) : Bd m := by
  unfold rightB at h
  rw [Bool.and_eq_true] at h
  obtain ⟨h1, h2⟩ := h
  have h1 := allIn_iff.1 h1
  have n1 := h1 m.due (by simp [MsgM.nums])
  have n2 := h1 m.ref (by simp [MsgM.nums])
  have n3 := h1 m.born (by simp [MsgM.nums])
  unfold restB at h2
  rw [if_neg hk] at h2
  by_cases k1 : m.kind = 1
  · rw [if_pos k1, Bool.and_eq_true] at h2
    obtain ⟨a, b, c, d, e, f, g⟩ := whole_bd h2.1
    exact ⟨by omega, a, b, n1, n2, n3, c, d, e, f, g⟩
  rw [if_neg k1] at h2
  by_cases k2 : m.kind = 2 ∨ m.kind = 3
  · rw [if_pos k2] at h2
    obtain ⟨a, b, c, d, e, f, g⟩ := whole_bd h2
    exact ⟨by omega, a, b, n1, n2, n3, c, d, e, f, g⟩
  rw [if_neg k2] at h2
  by_cases k4 : m.kind = 4
  · rw [if_pos k4, Bool.and_eq_true] at h2
    obtain ⟨a, b, c, d, e, f⟩ := bare_bd h2.1
    have g := empty_size h2.2
    exact ⟨by omega, by omega, by omega, n1, n2, n3, by omega, by omega, by omega, by rw [d]; simp, by rw [d]; intro t ht; cases ht⟩
  rw [if_neg k4] at h2
  cases h2
def packB (m : MsgM) : List UInt8 := Oc.numsB 1 [m.kind, m.queue, m.retry] ++ (Oc.numsB 6 [m.born, m.due, m.ref] ++ ([m.topic, m.tag, m.body].flatMap Oc.txtB ++ Oc.listB m.keys))
theorem numsB3 (n : Nat) (a b c : Int) : (Oc.numsB n [a, b, c]).length = n + (n + n) := by
  unfold Oc.numsB
  simp [Oc.numB_length]
theorem listB_le {l : List ByteArray} (h1 : l.length ≤ 3) (h2 : ∀ t ∈ l, t.size ≤ 16) : (Oc.listB l).length ≤ 55 := by
  unfold Oc.listB
  rw [List.length_append, Oc.numB_length]
  have : ∀ (l : List ByteArray), (∀ t ∈ l, t.size ≤ 16) → (l.flatMap Oc.txtB).length ≤ 18 * l.length := by
    intro l
    induction l with
    | nil => intro _; simp
    | cons t l ih =>
      intro h
      rw [List.flatMap_cons, List.length_append, Oc.txtB_length, List.length_cons]
      have := ih fun u hu => h u (List.mem_cons_of_mem _ hu)
      have := h t (List.mem_cons_self ..)
      omega
  have := this l h2
  omega
theorem packB_le {m : MsgM} (h : Bd m) : (packB m).length ≤ 320 := by
  unfold packB
  have h1 := listB_le h.many h.keys
  have h2 := h.topic
  have h3 := h.tag
  have h4 := h.body
  simp only [List.length_append, numsB3, List.flatMap_cons, List.flatMap_nil, Oc.txtB_length, List.length_nil]
  omega
theorem fit3 {n : Nat} {a b c : Int} (ha : Oc.FitN n a) (hb : Oc.FitN n b) (hc : Oc.FitN n c) : ∀ x ∈ [a, b, c], Oc.FitN n x := by
  intro x hx
  simp only [List.mem_cons, List.not_mem_nil, or_false] at hx
  rcases hx with rfl | rfl | rfl <;> assumption
theorem num3_at (n : Nat) (a b c : Int) (s : ByteArray) (W : World) (h1 : 1 ≤ n) (h7 : n ≤ 7) (hf : ∀ x ∈ [a, b, c], Oc.FitN n x) (hs : s = ⟨(Oc.numsB n [a, b, c]).toArray⟩) :
    Calls Tryz.prog 165 #[.int .i64 n, .slice (some ⟨W.heap.size, 0, none⟩) 3 3] (W.alloc (.cells #[.int .i64 a, .int .i64 b, .int .i64 c] 3)) fun e w' => e = .returned (.tuple #[.string s, .int .i64 0]) ∧ Below W.heap.size W w' := by
  subst hs
  refine (Oc.numS_ok n _ [a, b, c] _ h1 h7 (by decide : (3 : Nat) ≤ 1000000) (ints_alloc W [a, b, c] 3) hf).mono fun e w' h => ⟨h.1, ?_⟩
  exact ((Below.refl W.heap.size W).alloc (Nat.le_refl _) _).trans (h.2.mono (by simp only [World.size_alloc]; omega))
theorem text3_at (a b c : ByteArray) (s : ByteArray) (W : World) (ha : a.size ≤ 200) (hb : b.size ≤ 200) (hc : c.size ≤ 200) (hs : s = ⟨([a, b, c].flatMap Oc.txtB).toArray⟩) :
    Calls Tryz.prog 168 #[.slice (some ⟨W.heap.size, 0, none⟩) 3 3] (W.alloc (.cells #[.string a, .string b, .string c] 9)) fun e w' => e = .returned (.tuple #[.string s, .int .i64 0]) ∧ Below W.heap.size W w' := by
  subst hs
  have hst : Strs (W.alloc (.cells #[.string a, .string b, .string c] 9)) 0 (.slice (some ⟨W.heap.size, 0, none⟩) 3 3) [a, b, c] := (strs_alloc W [a, b, c] 9).zero
  refine (Oc.textW_ok _ [a, b, c] _ (by decide : (3 : Nat) ≤ 1000) (fun t ht => by
    simp only [List.mem_cons, List.not_mem_nil, or_false] at ht
    rcases ht with rfl | rfl | rfl <;> omega) hst).mono fun e w' h => ⟨h.1, ?_⟩
  exact ((Below.refl W.heap.size W).alloc (Nat.le_refl _) _).trans (h.2.mono (by simp only [World.size_alloc]; omega))
set_option maxHeartbeats 4000000 in
set_option maxRecDepth 100000 in
theorem packed_any (m : MsgM) (vk : Value) (s : ByteArray) (w : World) (hk : Strs w 0 vk m.keys) (hb : Bd m) (hs : s = ⟨(packB m).toArray⟩) :
    Calls Tryz.prog 118 #[m.val vk] w fun e w' => e = .returned (.string s) ∧ Below w.heap.size w w' := by
  obtain ⟨s1, h1⟩ : ∃ s : ByteArray, s = ⟨(Oc.numsB 1 [m.kind, m.queue, m.retry]).toArray⟩ := ⟨_, rfl⟩
  obtain ⟨s2, h2⟩ : ∃ s : ByteArray, s = ⟨(Oc.numsB 6 [m.born, m.due, m.ref]).toArray⟩ := ⟨_, rfl⟩
  obtain ⟨s3, h3⟩ : ∃ s : ByteArray, s = ⟨([m.topic, m.tag, m.body].flatMap Oc.txtB).toArray⟩ := ⟨_, rfl⟩
  obtain ⟨s4, h4⟩ : ∃ s : ByteArray, s = ⟨(Oc.listB m.keys).toArray⟩ := ⟨_, rfl⟩
  have b1 : s1.size ≤ 400 := by rw [h1, Oc.size_of, numsB3]; omega
  have b2 : s2.size ≤ 400 := by rw [h2, Oc.size_of, numsB3]; omega
  have b3 : s3.size ≤ 400 := by
    rw [h3, Oc.size_of]
    have h2 := hb.topic
    have h3 := hb.tag
    have h4 := hb.body
    simp only [List.length_append, List.flatMap_cons, List.flatMap_nil, Oc.txtB_length, List.length_nil]
    omega
  have b4 : s4.size ≤ 400 := by rw [h4, Oc.size_of]; have := listB_le hb.many hb.keys; omega
  have hcat : s1 ++ s2 ++ s3 ++ s4 = s := by
    rw [hs, h1, h2, h3, h4, append_toArray, append_toArray, append_toArray]
    unfold packB
    simp only [List.append_assoc]
  have f1 : ∀ x ∈ [m.kind, m.queue, m.retry], Oc.FitN 1 x := fit3 (by have := hb.kind; unfold Oc.FitN; omega) (by have := hb.queue; unfold Oc.FitN; omega) (by have := hb.retry; unfold Oc.FitN; omega)
  have f2 : ∀ x ∈ [m.born, m.due, m.ref], Oc.FitN 6 x := fit3 (by have := hb.born; unfold Oc.FitN; omega) (by have := hb.due; unfold Oc.FitN; omega) (by have := hb.ref; unfold Oc.FitN; omega)
  have HN1 : Hid (Calls Tryz.prog 165 #[.int .i64 1, .slice (some ⟨w.heap.size + 1, 0, none⟩) 3 3] ((w.alloc (.cells (m.cells vk) 46)).alloc (.cells #[.int .i64 m.kind, .int .i64 m.queue, .int .i64 m.retry] 3)) fun e w' => e = .returned (.tuple #[.string s1, .int .i64 0]) ∧ Below (w.heap.size + 1) (w.alloc (.cells (m.cells vk) 46)) w') := Lib.hid (by
    have := num3_at 1 m.kind m.queue m.retry s1 (w.alloc (.cells (m.cells vk) 46)) (by decide) (by decide) f1 h1
    simp only [World.size_alloc] at this
    exact this)
  have HN2 := Lib.hid fun W => num3_at 6 m.born m.due m.ref s2 W (by decide) (by decide) f2 h2
  have HT3 := Lib.hid fun W => text3_at m.topic m.tag m.body s3 W (by have := hb.topic; omega) (by have := hb.tag; omega) hb.body h3
  have HL4 : Hid (∀ W, Below w.heap.size w W → Calls Tryz.prog 169 #[vk] W fun e w' => e = .returned (.tuple #[.string s4, .int .i64 0]) ∧ Below W.heap.size W w') := Lib.hid fun W hbl => by
    rw [h4]
    exact Oc.listW_ok vk m.keys W (by have := hb.many; omega) (fun t ht => by have := hb.keys t ht; omega) (hk.below hbl (Nat.le_refl _))
  have HC := Lib.hid hcat
  clear hs h1 h2 h3 h4 hcat f1 f2 hb hk
  unfold MsgM.val
  unfold MsgM.cells at *
  go_enter Tryz.func118, Tryz.ntmps118
  go_wp2_with fail
  refine HN1.out.mono ?_
  rintro e w1 ⟨rfl, hb⟩
  have hz1 := hb.size
  have hc1 := (bcell hb).1
  simp only [World.size_alloc] at hz1
  have HA1 := Lib.hid hb
  clear hb
  go_wp2_with fail
  refine (HN2.out w1).mono ?_
  rintro e w2 ⟨rfl, hb⟩
  have hz2 := hb.size
  have hb := HA1.out.trans (hb.mono (by omega))
  have hc2 := (bcell hb).1
  have HA2 := Lib.hid hb
  clear hb hc1
  go_wp2_with fail
  refine (HT3.out w2).mono ?_
  rintro e w3 ⟨rfl, hb⟩
  have hz3 := hb.size
  have hb := HA2.out.trans (hb.mono (by omega))
  have hc3 := (bcell hb).1
  have HA3 := Lib.hid hb
  clear hb hc2
  go_wp2_with fail
  refine (HL4.out w3 (((Below.refl w.heap.size w).alloc (Nat.le_refl _) _).trans (HA3.out.mono (by omega)))).mono ?_
  rintro e w4 ⟨rfl, hb⟩
  have hz4 := hb.size
  have HA4 := Lib.hid (HA3.out.trans (hb.mono (by omega)))
  clear hb hc3
  go_wp2_with fail
  rw [HC.out]
  go_ret
  exact ⟨rfl, ((Below.refl w.heap.size w).alloc (Nat.le_refl _) _).trans (HA4.out.mono (by omega))⟩
def frameB (k : UInt8) (rest : List UInt8) : List UInt8 := k :: (Oc.numB 2 (3 + rest.length) ++ rest)
set_option maxRecDepth 100000 in
theorem framed_any (k : UInt8) (rest s : ByteArray) (w : World) (h : rest.size ≤ 60000) (hs : s = ⟨(frameB k rest.data.toList).toArray⟩) :
    Calls Tryz.prog 116 #[.string ⟨#[k]⟩, .string rest] w fun e w' => e = .returned (.string s) ∧ Below w.heap.size w w' := by
  obtain ⟨n, hn⟩ : ∃ n : ByteArray, n = ⟨(Oc.numB 2 (3 + rest.size)).toArray⟩ := ⟨_, rfl⟩
  have hnz : n.size ≤ 2 := by rw [hn, Oc.size_of, Oc.numB_length]; exact Nat.le_refl _
  have hcat : (⟨#[k]⟩ : ByteArray) ++ n ++ rest = s := by
    obtain ⟨l, hl⟩ := Oc.bytes_of rest
    rw [hs, hn, hl]
    have e1 : (⟨#[k]⟩ : ByteArray) = ⟨[k].toArray⟩ := rfl
    rw [e1, append_toArray, append_toArray]
    unfold frameB
    rfl
  have HN : Hid (Calls Tryz.prog 165 #[.int .i64 2, .slice (some ⟨w.heap.size, 0, none⟩) 1 1] (w.alloc (.cells #[.int .i64 (3 + (rest.size : Int))] 3)) fun e w' => e = .returned (.tuple #[.string n, .int .i64 0]) ∧ Below w.heap.size w w') := Lib.hid (by
    refine (Oc.numS_ok 2 _ [3 + (rest.size : Int)] _ (by decide) (by decide) (by decide : (1 : Nat) ≤ 1000000) (ints_alloc w [3 + (rest.size : Int)] 3) ?_).mono fun e w' h => ⟨?_, ?_⟩
    · intro x hx
      rw [List.mem_singleton] at hx
      subst hx
      unfold Oc.FitN
      omega
    · rw [h.1, hn]
      have e2 : (3 + (rest.size : Int)).toNat = 3 + rest.size := by omega
      unfold Oc.numsB
      simp only [List.flatMap_cons, List.flatMap_nil, List.append_nil, e2]
    · exact ((Below.refl w.heap.size w).alloc (Nat.le_refl _) _).trans (h.2.mono (by simp only [World.size_alloc]; omega)))
  have HC := Lib.hid hcat
  have hkz : (⟨#[k]⟩ : ByteArray).size = 1 := rfl
  have HKZ := Lib.hid hkz
  obtain ⟨mk, hmk⟩ : ∃ mk : ByteArray, mk = ⟨#[k]⟩ := ⟨_, rfl⟩
  rw [← hmk] at HC HKZ ⊢
  have hmz : mk.size ≤ 1 := Nat.le_of_eq HKZ.out
  clear hs hn hcat hkz hmk HKZ
  go_enter Tryz.func116, Tryz.ntmps116
  go_wp2_with fail
  refine HN.out.mono ?_
  rintro e w1 ⟨rfl, hb⟩
  have HB := Lib.hid hb
  clear hb
  go_wp2_with fail
  rw [HC.out]
  go_ret
  exact ⟨rfl, HB.out⟩
def fillB (n : Nat) : List UInt8 := frameB 90 (List.replicate (n - 3) 0)
theorem fill_no (n : Int) (w : World) (h : n < 3 ∨ 1024 < n) : Calls Tryz.prog 69 #[.int .i64 n] w fun e w' => e = .returned (.tuple #[.string ⟨#[]⟩, .bool false]) ∧ w = w' := by
  by_cases h3 : n < 3
  · clear h
    go_enter Tryz.func69, Tryz.ntmps69
    go_wp2_with fail
    go_ret2
    exact ⟨rfl, rfl⟩
  · have h4 : 1024 < n := by omega
    clear h
    go_enter Tryz.func69, Tryz.ntmps69
    go_wp2_with fail
    go_ret2
    exact ⟨rfl, rfl⟩
theorem fill_yes (n : Nat) (s : ByteArray) (w : World) (h3 : 3 ≤ n) (h4 : n ≤ 1024) (hs : s = ⟨(fillB n).toArray⟩) : Calls Tryz.prog 69 #[.int .i64 n] w fun e w' => e = .returned (.tuple #[.string s, .bool true]) ∧ Below w.heap.size w w' := by
  obtain ⟨k, rfl⟩ : ∃ k, n = k + 3 := ⟨n - 3, by omega⟩
  obtain ⟨t, ht⟩ : ∃ t, t = nots k := ⟨_, rfl⟩
  have hts : t.size ≤ 60000 := by rw [ht, nots_size]; omega
  have HN : Hid (Calls Tryz.prog 119 #[.int .i64 k] w fun e w' => e = .returned (.string t) ∧ Below w.heap.size w w') := Lib.hid (by rw [ht]; exact nots_any k w (by omega))
  have HF := Lib.hid fun W => framed_any 90 t s W hts (by
    rw [hs, ht]
    unfold fillB
    rw [Nat.add_sub_cancel]
    rfl)
  have e3 : ((k + 3 : Nat) : Int) - 3 = (k : Int) := by omega
  have g1 : ¬ ((k + 3 : Nat) : Int) < 3 := by omega
  have g2 : ¬ (1024 : Int) < ((k + 3 : Nat) : Int) := by omega
  obtain ⟨nI, hnI⟩ : ∃ nI : Int, nI = ((k + 3 : Nat) : Int) := ⟨_, rfl⟩
  rw [← hnI] at e3 g1 g2 ⊢
  have b0 : 3 ≤ nI := by omega
  have b1 : nI ≤ 1024 := by omega
  clear hs ht hnI g1 g2
  go_enter Tryz.func69, Tryz.ntmps69
  go_wp2_with fail
  refine HN.out.mono ?_
  rintro e w1 ⟨rfl, hb⟩
  have HB := Lib.hid hb
  clear hb
  go_wp2_with fail
  refine (HF.out w1).mono ?_
  rintro e w2 ⟨rfl, hb⟩
  have HB2 := Lib.hid (HB.out.trans (hb.mono HB.out.size))
  clear hb
  go_wp2_with fail
  go_ret2
  exact ⟨rfl, HB2.out⟩
def recB (m : MsgM) : List UInt8 := frameB 165 (Cr.sealB ⟨(packB m).toArray⟩)
def putO (m : MsgM) : Option (List UInt8) := if rightB m = true then (if m.kind ≠ 0 then some (recB m) else if 3 ≤ m.body.size then some (fillB m.body.size) else none) else none
def RPutTo (m : MsgM) (w : World) (e : Ending) (w' : World) : Prop := e = .returned (.tuple #[.string ⟨((putO m).getD []).toArray⟩, .int .i64 (if (putO m).isSome then 0 else 1)]) ∧ Below w.heap.size w w'
theorem fill_body {m : MsgM} (h : rightB m = true) (hk : m.kind = 0) : m.body.size ≤ 1024 ∧ m.body = nots m.body.size ∧ bareB m = true ∧ m.ref = 0 ∧ m.born = 0 := by
  unfold rightB restB at h
  rw [if_pos hk] at h
  simp only [Bool.and_eq_true, decide_eq_true_eq] at h
  obtain ⟨_, h1, h2, h3, h4⟩ := h
  unfold notsB at h4
  have h2 := allIn_iff.1 h2
  have a := h2 m.ref (by simp)
  have b := h2 m.born (by simp)
  exact ⟨h3, of_decide_eq_true h4, h1, by omega, by omega⟩
set_option maxHeartbeats 4000000 in
set_option maxRecDepth 100000 in
theorem put_bad (m : MsgM) (vk : Value) (t : Nat) (w : World) (hk : Strs w 0 vk m.keys) (hcap : CapOk vk) (hs : Sound m) (ht : Cr.Tab w t) (hz : rightB m = false) :
    Calls Tryz.prog 66 #[.pointer (some ⟨t, 0, none⟩), m.val vk] w (RPutTo m w) := by
  unfold RPutTo
  have htl : t < w.heap.size := ht.lt
  have HR : Hid (∀ W, Below w.heap.size w W → Calls Tryz.prog 115 #[m.val vk] W fun e w' => e = .returned (.bool false) ∧ Below W.heap.size W w') := Lib.hid fun W hb => right_any m vk false W (hk.below hb (Nat.le_refl _)) hcap hs hz
  have hp : putO m = none := by unfold putO; rw [if_neg (by rw [hz]; simp)]
  rw [hp]
  clear hk hcap hs ht hz hp
  unfold MsgM.val MsgM.cells at *
  go_enter Tryz.func66, Tryz.ntmps66
  go_wp2_with fail
  refine (HR.out _ ((Below.refl w.heap.size w).alloc (Nat.le_refl _) _)).mono ?_
  rintro e w1 ⟨rfl, hb⟩
  have HA1 := Lib.hid hb
  clear hb
  go_wp2_with fail
  go_ret2
  exact ⟨rfl, ((Below.refl w.heap.size w).alloc (Nat.le_refl _) _).trans (HA1.out.mono (by simp))⟩
set_option maxHeartbeats 4000000 in
set_option maxRecDepth 100000 in
theorem put_fill (m : MsgM) (vk : Value) (t : Nat) (w : World) (hk : Strs w 0 vk m.keys) (hcap : CapOk vk) (hs : Sound m) (ht : Cr.Tab w t) (hz : rightB m = true) (hk0 : m.kind = 0) (h3 : 3 ≤ m.body.size) :
    Calls Tryz.prog 66 #[.pointer (some ⟨t, 0, none⟩), m.val vk] w (RPutTo m w) := by
  unfold RPutTo
  have htl : t < w.heap.size := ht.lt
  have HR : Hid (∀ W, Below w.heap.size w W → Calls Tryz.prog 115 #[m.val vk] W fun e w' => e = .returned (.bool true) ∧ Below W.heap.size W w') := Lib.hid fun W hb => right_any m vk true W (hk.below hb (Nat.le_refl _)) hcap hs hz
  have f1 := (fill_body hz hk0).1
  obtain ⟨nb, hnb⟩ : ∃ nb : Nat, nb = m.body.size := ⟨_, rfl⟩
  have hkb : (m.kind != 0) = false := by rw [hk0]; rfl
  have hp : putO m = some (fillB m.body.size) := by unfold putO; rw [if_pos hz, if_neg (by omega), if_pos h3]
  rw [hp]
  obtain ⟨s, hse⟩ : ∃ s : ByteArray, s = ⟨(fillB m.body.size).toArray⟩ := ⟨_, rfl⟩
  show Calls _ _ _ _ (fun e w' => e = .returned (.tuple #[.string ⟨(fillB m.body.size).toArray⟩, .int .i64 0]) ∧ _)
  rw [← hse]
  have HF := Lib.hid fun W => fill_yes m.body.size s W h3 f1 hse
  clear hk hcap hs ht hz hp hse hk0 hnb
  unfold MsgM.val MsgM.cells at *
  go_enter Tryz.func66, Tryz.ntmps66
  go_wp2_with fail
  refine (HR.out _ ((Below.refl w.heap.size w).alloc (Nat.le_refl _) _)).mono ?_
  rintro e w1 ⟨rfl, hb⟩
  have hz1 := hb.size
  have hc1 := (bcell hb).1
  simp only [World.size_alloc] at hz1 hc1
  have HA1 := Lib.hid hb
  clear hb
  go_wp2_with fail
  refine (HF.out w1).mono ?_
  rintro e w2 ⟨rfl, hb⟩
  have HA2 := Lib.hid (HA1.out.trans (hb.mono (by simp only [World.size_alloc]; omega)))
  clear hb
  go_wp2_with fail
  go_ret2
  exact ⟨rfl, ((Below.refl w.heap.size w).alloc (Nat.le_refl _) _).trans (HA2.out.mono (by simp))⟩
set_option maxHeartbeats 4000000 in
set_option maxRecDepth 100000 in
theorem put_few (m : MsgM) (vk : Value) (t : Nat) (w : World) (hk : Strs w 0 vk m.keys) (hcap : CapOk vk) (hs : Sound m) (ht : Cr.Tab w t) (hz : rightB m = true) (hk0 : m.kind = 0) (h3 : ¬ 3 ≤ m.body.size) :
    Calls Tryz.prog 66 #[.pointer (some ⟨t, 0, none⟩), m.val vk] w (RPutTo m w) := by
  unfold RPutTo
  have htl : t < w.heap.size := ht.lt
  have HR : Hid (∀ W, Below w.heap.size w W → Calls Tryz.prog 115 #[m.val vk] W fun e w' => e = .returned (.bool true) ∧ Below W.heap.size W w') := Lib.hid fun W hb => right_any m vk true W (hk.below hb (Nat.le_refl _)) hcap hs hz
  have f1 := (fill_body hz hk0).1
  obtain ⟨nb, hnb⟩ : ∃ nb : Nat, nb = m.body.size := ⟨_, rfl⟩
  have hkb : (m.kind != 0) = false := by rw [hk0]; rfl
  have hp : putO m = none := by unfold putO; rw [if_pos hz, if_neg (by omega), if_neg h3]
  rw [hp]
  have HF := Lib.hid fun W => fill_no (m.body.size : Int) W (.inl (by omega))
  clear hk hcap hs ht hz hp hk0 hnb
  unfold MsgM.val MsgM.cells at *
  go_enter Tryz.func66, Tryz.ntmps66
  go_wp2_with fail
  refine (HR.out _ ((Below.refl w.heap.size w).alloc (Nat.le_refl _) _)).mono ?_
  rintro e w1 ⟨rfl, hb⟩
  have hz1 := hb.size
  have hc1 := (bcell hb).1
  simp only [World.size_alloc] at hz1 hc1
  have HA1 := Lib.hid hb
  clear hb
  go_wp2_with fail
  refine (HF.out w1).mono ?_
  rintro e w2 ⟨rfl, rfl⟩
  go_wp2_with fail
  go_ret2
  exact ⟨rfl, ((Below.refl w.heap.size w).alloc (Nat.le_refl _) _).trans (HA1.out.mono (by simp))⟩
set_option maxHeartbeats 4000000 in
set_option maxRecDepth 100000 in
theorem put_rec (m : MsgM) (vk : Value) (t : Nat) (w : World) (hk : Strs w 0 vk m.keys) (hcap : CapOk vk) (hs : Sound m) (ht : Cr.Tab w t) (hz : rightB m = true) (hk0 : ¬ m.kind = 0) :
    Calls Tryz.prog 66 #[.pointer (some ⟨t, 0, none⟩), m.val vk] w (RPutTo m w) := by
  unfold RPutTo
  have htl : t < w.heap.size := ht.lt
  have HR : Hid (∀ W, Below w.heap.size w W → Calls Tryz.prog 115 #[m.val vk] W fun e w' => e = .returned (.bool true) ∧ Below W.heap.size W w') := Lib.hid fun W hb => right_any m vk true W (hk.below hb (Nat.le_refl _)) hcap hs hz
  have hbd := right_bd hz hk0
  have hp : putO m = some (recB m) := by unfold putO; rw [if_pos hz, if_pos hk0]
  rw [hp]
  obtain ⟨s, hse⟩ : ∃ s : ByteArray, s = ⟨(recB m).toArray⟩ := ⟨_, rfl⟩
  obtain ⟨pk, hpk⟩ : ∃ s : ByteArray, s = ⟨(packB m).toArray⟩ := ⟨_, rfl⟩
  obtain ⟨sl, hsl⟩ : ∃ s : ByteArray, s = ⟨(Cr.sealB pk).toArray⟩ := ⟨_, rfl⟩
  have hpz : pk.size ≤ 320 := by rw [hpk, Oc.size_of]; exact packB_le hbd
  have hslz : sl.size ≤ 60000 := by rw [hsl, Oc.size_of, Cr.sealB_length]; omega
  show Calls _ _ _ _ (fun e w' => e = .returned (.tuple #[.string ⟨(recB m).toArray⟩, .int .i64 0]) ∧ _)
  rw [← hse]
  have hkb : (m.kind != 0) = true := by simpa using hk0
  have HP : Hid (∀ W, Below w.heap.size w W → Calls Tryz.prog 118 #[m.val vk] W fun e w' => e = .returned (.string pk) ∧ Below W.heap.size W w') := Lib.hid fun W hb => packed_any m vk pk W (hk.below hb (Nat.le_refl _)) hbd hpk
  have HS : Hid (∀ W, Below w.heap.size w W → Calls Tryz.prog 117 #[.pointer (some ⟨t, 0, none⟩), .string pk] W fun e w' => e = .returned (.string sl) ∧ Below W.heap.size W w') := Lib.hid fun W hb => by
    rw [hsl]
    exact Cr.seal_any t pk W (Cr.Tab.below ht hb htl) (by omega)
  have HF := Lib.hid fun W => framed_any 165 sl s W hslz (by rw [hse, hsl]; unfold recB; rw [← hpk])
  clear hk hcap hs ht hz hp hse hpk hsl hk0 hbd
  unfold MsgM.val MsgM.cells at *
  go_enter Tryz.func66, Tryz.ntmps66
  go_wp2_with fail
  refine (HR.out _ ((Below.refl w.heap.size w).alloc (Nat.le_refl _) _)).mono ?_
  rintro e w1 ⟨rfl, hb⟩
  have hz1 := hb.size
  have hc1 := (bcell hb).1
  simp only [World.size_alloc] at hz1 hc1
  have HA1 := Lib.hid hb
  clear hb
  go_wp2_with fail
  refine (HP.out w1 (((Below.refl w.heap.size w).alloc (Nat.le_refl _) _).trans (HA1.out.mono (by simp)))).mono ?_
  rintro e w2 ⟨rfl, hb⟩
  have hz2 := hb.size
  have HA2 := Lib.hid (HA1.out.trans (hb.mono (by simp only [World.size_alloc]; omega)))
  clear hb
  go_wp2_with fail
  refine (HS.out w2 (((Below.refl w.heap.size w).alloc (Nat.le_refl _) _).trans (HA2.out.mono (by simp)))).mono ?_
  rintro e w3 ⟨rfl, hb⟩
  have hz3 := hb.size
  have HA3 := Lib.hid (HA2.out.trans (hb.mono (by simp only [World.size_alloc]; omega)))
  clear hb
  go_wp2_with fail
  refine (HF.out w3).mono ?_
  rintro e w4 ⟨rfl, hb⟩
  have HA4 := Lib.hid (HA3.out.trans (hb.mono (by simp only [World.size_alloc]; omega)))
  clear hb
  go_wp2_with fail
  go_ret2
  exact ⟨rfl, ((Below.refl w.heap.size w).alloc (Nat.le_refl _) _).trans (HA4.out.mono (by simp))⟩
theorem rec_put_any (m : MsgM) (vk : Value) (t : Nat) (w : World) (hk : Strs w 0 vk m.keys) (hcap : CapOk vk) (hs : Sound m) (ht : Cr.Tab w t) :
    Calls Tryz.prog 66 #[.pointer (some ⟨t, 0, none⟩), m.val vk] w (RPutTo m w) := by
  by_cases hz : rightB m = true
  · by_cases hk0 : m.kind = 0
    · by_cases h3 : 3 ≤ m.body.size
      · exact put_fill m vk t w hk hcap hs ht hz hk0 h3
      · exact put_few m vk t w hk hcap hs ht hz hk0 h3
    · exact put_rec m vk t w hk hcap hs ht hz hk0
  · exact put_bad m vk t w hk hcap hs ht (by simpa using hz)
end Go.Proofs.YtdnhgodfmjapmaaGreatDoor
