/-
  Part 13: what the statement needs of these texts: RecR, RecG.
-/
import Derived.BigQuiet
import Derived.Deep.DeepCutAuto
import Derived.Deep.DeepMust
import Derived.Deep.OwnRows
import Derived.Deep.QuietTactic
import Derived.Deep.RegionHeld3
import Derived.Deep.RegionLaw
import Derived.Defers
import Derived.Laws.BitsAllLaws
import Derived.Laws.PanicsMore
import Derived.Laws.Rows
import Derived.Laws.StructEq
import Derived.Lib.AppendStr
import Derived.Lib.Hide
import Derived.Lib.OthersKept
import Derived.Lib.Repeat
import Derived.ProofKit
import Derived.Recover
import Derived.Shelf.Strings.Builder1
import Derived.Shelf.Strings.Prefix
import Derived.Shelf.Strings.Repeat
import Derived.StillTailTactics
import Derived.Test.YtmekmcgdjlmmcaaProg
import Derived.Test.YtmekmcgdjlmmcaaRows
import Derived.WalkKit
import Derived.WalkLawsBesides
import Derived.WalkSmall
import Derived.WalkSpells
import Derived.Test.YtmekmcgdjlmmcaaChn1
import Derived.Test.YtmekmcgdjlmmcaaChn2
import Derived.Test.YtmekmcgdjlmmcaaChn3
import Derived.Test.YtmekmcgdjlmmcaaChn4
import Derived.Test.YtmekmcgdjlmmcaaChn5
import Derived.Test.YtmekmcgdjlmmcaaChn7
import Derived.Test.YtmekmcgdjlmmcaaChn9
import Derived.Test.YtmekmcgdjlmmcaaChn10
import Derived.Test.YtmekmcgdjlmmcaaChn11
import Derived.Test.YtmekmcgdjlmmcaaChn12
namespace Go.Proofs.Ytmekmcgdjlmmcaa
open Go.RowKit Go.Deep
set_option linter.unusedVariables false
set_option linter.unusedSimpArgs false

/-- So many noughts. -/
def nots (n : Nat) : ByteArray := ⟨(List.replicate n (0 : UInt8)).toArray⟩
theorem repeat_zero (n : Nat) : Lib.repeatL [(0 : UInt8)] n = List.replicate n 0 := by
  induction n with
  | zero => rfl
  | succ n ih => rw [List.replicate_succ, ← ih]; rfl
theorem nots_any (n : Nat) (w : World) (h : n ≤ 140737488355328) : Calls Try.prog 46 #[.int .i64 n] w fun e w' => e = .returned (.string (nots n)) ∧ Below w.heap.size w w' := by
  have hr := Try.strings_Repeat ⟨#[0]⟩ n w (by omega) (by show 1 * n ≤ _; omega)
  have e1 : (⟨(Lib.repeatL (⟨#[0]⟩ : ByteArray).data.toList n).toArray⟩ : ByteArray) = nots n := by
    show (⟨(Lib.repeatL [(0 : UInt8)] n).toArray⟩ : ByteArray) = nots n
    rw [repeat_zero]
    rfl
  rw [e1] at hr
  have HR := Lib.hid hr
  clear hr e1
  go_enter Try.func46, Try.ntmps46
  go_wp2_with (go_at_call 51; refine HR.out.mono ?_)
  rintro e w1 ⟨rfl, hb⟩
  have HB := Lib.hid hb
  clear hb
  go_wp2_with fail
  go_ret
  exact ⟨rfl, HB.out⟩
def notsB (s : ByteArray) : Bool := decide (s = nots s.size)
theorem areNots_any (s : ByteArray) (x : Bool) (w : World) (h : s.size ≤ 1000000) (hx : notsB s = x) : Calls Try.prog 39 #[.string s] w fun e w' => e = .returned (.bool x) ∧ Below w.heap.size w w' := by
  have HN := Lib.hid (nots_any s.size w (by omega))
  unfold notsB at hx
  obtain ⟨t, ht⟩ : ∃ t, t = nots s.size := ⟨_, rfl⟩
  rw [← ht] at HN hx
  clear ht
  by_cases hst : s = t
  · obtain rfl : true = x := by rw [← hx, decide_eq_true hst]
    have h1 : (s.toList == t.toList) = true := by rw [hst]; simp
    clear hx hst
    go_enter Try.func39, Try.ntmps39
    go_wp2_with fail
    refine HN.out.mono ?_
    rintro e w1 ⟨rfl, hb⟩
    have HB := Lib.hid hb
    clear hb
    go_wp2_with fail
    go_ret
    exact ⟨rfl, HB.out⟩
  · obtain rfl : false = x := by rw [← hx, decide_eq_false hst]
    have h1 : (s.toList == t.toList) = false := by
      have : s.toList ≠ t.toList := fun h => hst (by rw [← ba_toList s, h, ba_toList t])
      simpa using this
    clear hx hst
    go_enter Try.func39, Try.ntmps39
    go_wp2_with fail
    refine HN.out.mono ?_
    rintro e w1 ⟨rfl, hb⟩
    have HB := Lib.hid hb
    clear hb
    go_wp2_with fail
    go_ret
    exact ⟨rfl, HB.out⟩
def MsgM.nums (m : MsgM) : List Int := [m.kind, m.queue, m.due, m.retry, m.ref, m.born]
def NumsTo (m : MsgM) (w : World) (e : Ending) (w' : World) : Prop := ∃ v, e = .returned v ∧ Ints w' v m.nums ∧ Below w.heap.size w w'
theorem numbers_any (m : MsgM) (vk : Value) (w : World) : Calls Try.prog 37 #[m.val vk] w (NumsTo m w) := by
  unfold MsgM.val MsgM.cells
  go_enter Try.func37, Try.ntmps37
  go_wp2_with fail
  go_ret
  refine ⟨_, rfl, ?_, ?_⟩
  · have := ints_alloc (w.alloc (.cells (m.cells vk) 24)) m.nums 3
    simp only [World.size_alloc] at this
    exact this
  · exact ((Below.refl _ _).alloc (Nat.le_refl _) _).alloc (by simp) _
def restB (m : MsgM) : Bool :=
  if m.kind = 0 then bareB m && (allIn 0 0 [m.ref, m.born] && (decide (m.body.size ≤ 1024) && notsB m.body))
  else if m.kind = 1 then wholeB m && allIn 0 0 [m.due, m.ref]
  else if m.kind = 2 ∨ m.kind = 3 then wholeB m
  else if m.kind = 4 then bareB m && m.body.toList.isEmpty
  else false
def rightB (m : MsgM) : Bool := allIn 0 1099511627776 m.nums && restB m
theorem range_two (a b n n' : Int) (z : Bool) (W : World) (p q : Nat) (hp : W.cell? ⟨p, 0, none⟩ = some (.int .i64 a)) (hq : W.cell? ⟨q, 0, none⟩ = some (.int .i64 b)) (h1 : p < W.heap.size) (h2 : q < W.heap.size) (hz : allIn a b [n, n'] = z) :
    Calls Try.prog 45 #[.slice (some ⟨W.heap.size, 0, none⟩) 2 2, .pointer (some ⟨p, 0, none⟩), .pointer (some ⟨q, 0, none⟩)] (W.alloc (.cells #[.int .i64 n, .int .i64 n'] 3)) fun e w' => e = .returned (.bool z) ∧ Below W.heap.size W w' :=
  (range_any p q a b _ [n, n'] z _ (ints_alloc W [n, n'] 3) (by decide : (2 : Nat) ≤ 1000000)
    (by rw [(bcell ((Below.refl W.heap.size W).alloc (Nat.le_refl _) _)).1 p 0 h1]; exact hp) (by rw [(bcell ((Below.refl W.heap.size W).alloc (Nat.le_refl _) _)).1 q 0 h2]; exact hq) hz).mono fun e w' h => ⟨h.1, h.2 ▸ (Below.refl W.heap.size W).alloc (Nat.le_refl _) _⟩
set_option maxHeartbeats 4000000 in
set_option maxRecDepth 100000 in
theorem right_any (m : MsgM) (vk : Value) (x : Bool) (w : World) (hk : Strs w 0 vk m.keys) (hcap : CapOk vk) (hs : Sound m) (hx : rightB m = x) :
    Calls Try.prog 28 #[m.val vk] w fun e w' => e = .returned (.bool x) ∧ Below w.heap.size w w' := by
  obtain ⟨z, hz⟩ : ∃ z, allIn 0 1099511627776 m.nums = z := ⟨_, rfl⟩
  obtain ⟨zb, hzb⟩ : ∃ z, bareB m = z := ⟨_, rfl⟩
  obtain ⟨zw, hzw⟩ : ∃ z, wholeB m = z := ⟨_, rfl⟩
  obtain ⟨zn, hzn⟩ : ∃ z, notsB m.body = z := ⟨_, rfl⟩
  obtain ⟨z1, hz1⟩ : ∃ z, allIn 0 0 [m.ref, m.born] = z := ⟨_, rfl⟩
  obtain ⟨z2, hz2⟩ : ∃ z, allIn 0 0 [m.due, m.ref] = z := ⟨_, rfl⟩
  unfold rightB restB at hx
  rw [hz, hzb, hzw, hzn, hz1, hz2] at hx
  have HNU := Lib.hid fun W => numbers_any m vk W
  have HRG := Lib.hid fun v W p q (hv : Ints W v m.nums) hp hq => range_any p q 0 1099511627776 v m.nums z W hv (by decide : (6 : Nat) ≤ 1000000) hp hq hz
  have HBA : Hid (∀ W, Below w.heap.size w W → Calls Try.prog 38 #[m.val vk] W fun e w' => e = .returned (.bool zb) ∧ Below W.heap.size W w') := Lib.hid fun W hb => bare_any m vk zb W (hk.below hb (Nat.le_refl _)) hzb
  have HWH : Hid (∀ W, Below w.heap.size w W → Calls Try.prog 40 #[m.val vk] W fun e w' => e = .returned (.bool zw) ∧ Below W.heap.size W w') := Lib.hid fun W hb => whole_any m vk zw W (hk.below hb (Nat.le_refl _)) hcap hs hzw
  have HNO := Lib.hid fun W => areNots_any m.body zn W hs.body hzn
  have HR1 := Lib.hid fun W p q hp hq a b => range_two 0 0 m.ref m.born z1 W p q hp hq a b hz1
  have HR2 := Lib.hid fun W p q hp hq a b => range_two 0 0 m.due m.ref z2 W p q hp hq a b hz2
  clear hz hzb hzw hzn hz1 hz2 hs hk hcap
  unfold MsgM.val MsgM.cells at *
  obtain ⟨kind, queue, due, retry, ref, born, topic, tag, body, keys⟩ := m
  simp only at *
  cases z
  · obtain rfl : false = x := by simpa using hx
    go_enter Try.func28, Try.ntmps28
    go_wp2_with fail
    refine (from_any 0 1099511627776 _).mono ?_
    rintro e w1 ⟨p, q, rfl, hp0, hp1, hq0, hq1, kp, kq, hb⟩
    have hz1 := hb.size
    have hc1 := (bcell hb).1
    simp only [World.size_alloc] at hz1 hp0 hq0 hc1
    have HA1 := Lib.hid hb
    clear hb
    go_wp2_with fail
    refine (from_any 0 0 _).mono ?_
    rintro e w2 ⟨p', q', rfl, hp0', hp1', hq0', hq1', kp', kq', hb⟩
    have kp2 := ((bcell hb).1 p 0 hp1).trans kp
    have kq2 := ((bcell hb).1 q 0 hq1).trans kq
    have hz2 := hb.size
    have hb := HA1.out.trans (hb.mono (by simp only [World.size_alloc]; omega))
    have hc2 := (bcell hb).1
    simp only [World.size_alloc] at hc2
    have HA2 := Lib.hid hb
    clear hb kp kq HA1 hc1
    go_wp2_with fail
    refine (HNU.out _).mono ?_
    rintro e w3 ⟨v, rfl, hv, hb⟩
    have kp3 := ((bcell hb).1 p 0 (by omega)).trans kp2
    have kq3 := ((bcell hb).1 q 0 (by omega)).trans kq2
    have kp3' := ((bcell hb).1 p' 0 hp1').trans kp'
    have kq3' := ((bcell hb).1 q' 0 hq1').trans kq'
    have hz3 := hb.size
    have hb := HA2.out.trans (hb.mono (by simp only [World.size_alloc]; omega))
    have hc3 := (bcell hb).1
    simp only [World.size_alloc] at hc3
    have HA3 := Lib.hid hb
    have HV := Lib.hid hv
    clear hb kp2 kq2 kp' kq' hv hc2
    go_wp2_with fail
    refine (HRG.out v w3 p q HV.out kp3 kq3).mono ?_
    rintro e w4 ⟨rfl, rfl⟩
    clear kp3 kq3
    go_wp2_with fail
    go_ret
    exact ⟨rfl, ((Below.refl w.heap.size w).alloc (Nat.le_refl _) _).trans (HA3.out.mono (by simp))⟩
  by_cases hk0 : kind = 0
  · subst hk0
    rw [if_pos rfl] at hx
    cases zb
    · obtain rfl : false = x := by simpa using hx
      go_enter Try.func28, Try.ntmps28
      go_wp2_with fail
      refine (from_any 0 1099511627776 _).mono ?_
      rintro e w1 ⟨p, q, rfl, hp0, hp1, hq0, hq1, kp, kq, hb⟩
      have hz1 := hb.size
      have hc1 := (bcell hb).1
      simp only [World.size_alloc] at hz1 hp0 hq0 hc1
      have HA1 := Lib.hid hb
      clear hb
      go_wp2_with fail
      refine (from_any 0 0 _).mono ?_
      rintro e w2 ⟨p', q', rfl, hp0', hp1', hq0', hq1', kp', kq', hb⟩
      have kp2 := ((bcell hb).1 p 0 hp1).trans kp
      have kq2 := ((bcell hb).1 q 0 hq1).trans kq
      have hz2 := hb.size
      have hb := HA1.out.trans (hb.mono (by simp only [World.size_alloc]; omega))
      have hc2 := (bcell hb).1
      simp only [World.size_alloc] at hc2
      have HA2 := Lib.hid hb
      clear hb kp kq HA1 hc1
      go_wp2_with fail
      refine (HNU.out _).mono ?_
      rintro e w3 ⟨v, rfl, hv, hb⟩
      have kp3 := ((bcell hb).1 p 0 (by omega)).trans kp2
      have kq3 := ((bcell hb).1 q 0 (by omega)).trans kq2
      have kp3' := ((bcell hb).1 p' 0 hp1').trans kp'
      have kq3' := ((bcell hb).1 q' 0 hq1').trans kq'
      have hz3 := hb.size
      have hb := HA2.out.trans (hb.mono (by simp only [World.size_alloc]; omega))
      have hc3 := (bcell hb).1
      simp only [World.size_alloc] at hc3
      have HA3 := Lib.hid hb
      have HV := Lib.hid hv
      clear hb kp2 kq2 kp' kq' hv hc2
      go_wp2_with fail
      refine (HRG.out v w3 p q HV.out kp3 kq3).mono ?_
      rintro e w4 ⟨rfl, rfl⟩
      clear kp3 kq3
      go_wp2_with fail
      refine (HBA.out w3 (((Below.refl w.heap.size w).alloc (Nat.le_refl _) _).trans (HA3.out.mono (by simp)))).mono ?_
      rintro e w4 ⟨rfl, hb⟩
      have kp4' := ((bcell hb).1 p' 0 (by omega)).trans kp3'
      have kq4' := ((bcell hb).1 q' 0 (by omega)).trans kq3'
      have hz4 := hb.size
      have hb := HA3.out.trans (hb.mono (by simp only [World.size_alloc]; omega))
      have hc4 := (bcell hb).1
      simp only [World.size_alloc] at hc4
      have HA4 := Lib.hid hb
      clear hb hc3
      go_wp2_with fail
      go_ret
      exact ⟨rfl, ((Below.refl w.heap.size w).alloc (Nat.le_refl _) _).trans (HA4.out.mono (by simp))⟩
    cases z1
    · obtain rfl : false = x := by simpa using hx
      go_enter Try.func28, Try.ntmps28
      go_wp2_with fail
      refine (from_any 0 1099511627776 _).mono ?_
      rintro e w1 ⟨p, q, rfl, hp0, hp1, hq0, hq1, kp, kq, hb⟩
      have hz1 := hb.size
      have hc1 := (bcell hb).1
      simp only [World.size_alloc] at hz1 hp0 hq0 hc1
      have HA1 := Lib.hid hb
      clear hb
      go_wp2_with fail
      refine (from_any 0 0 _).mono ?_
      rintro e w2 ⟨p', q', rfl, hp0', hp1', hq0', hq1', kp', kq', hb⟩
      have kp2 := ((bcell hb).1 p 0 hp1).trans kp
      have kq2 := ((bcell hb).1 q 0 hq1).trans kq
      have hz2 := hb.size
      have hb := HA1.out.trans (hb.mono (by simp only [World.size_alloc]; omega))
      have hc2 := (bcell hb).1
      simp only [World.size_alloc] at hc2
      have HA2 := Lib.hid hb
      clear hb kp kq HA1 hc1
      go_wp2_with fail
      refine (HNU.out _).mono ?_
      rintro e w3 ⟨v, rfl, hv, hb⟩
      have kp3 := ((bcell hb).1 p 0 (by omega)).trans kp2
      have kq3 := ((bcell hb).1 q 0 (by omega)).trans kq2
      have kp3' := ((bcell hb).1 p' 0 hp1').trans kp'
      have kq3' := ((bcell hb).1 q' 0 hq1').trans kq'
      have hz3 := hb.size
      have hb := HA2.out.trans (hb.mono (by simp only [World.size_alloc]; omega))
      have hc3 := (bcell hb).1
      simp only [World.size_alloc] at hc3
      have HA3 := Lib.hid hb
      have HV := Lib.hid hv
      clear hb kp2 kq2 kp' kq' hv hc2
      go_wp2_with fail
      refine (HRG.out v w3 p q HV.out kp3 kq3).mono ?_
      rintro e w4 ⟨rfl, rfl⟩
      clear kp3 kq3
      go_wp2_with fail
      refine (HBA.out w3 (((Below.refl w.heap.size w).alloc (Nat.le_refl _) _).trans (HA3.out.mono (by simp)))).mono ?_
      rintro e w4 ⟨rfl, hb⟩
      have kp4' := ((bcell hb).1 p' 0 (by omega)).trans kp3'
      have kq4' := ((bcell hb).1 q' 0 (by omega)).trans kq3'
      have hz4 := hb.size
      have hb := HA3.out.trans (hb.mono (by simp only [World.size_alloc]; omega))
      have hc4 := (bcell hb).1
      simp only [World.size_alloc] at hc4
      have HA4 := Lib.hid hb
      clear hb hc3
      go_wp2_with fail
      refine (HR1.out w4 p' q' kp4' kq4' (by omega) (by omega)).mono ?_
      rintro e w5 ⟨rfl, hb⟩
      have hz5 := hb.size
      have hb := HA4.out.trans (hb.mono (by simp only [World.size_alloc]; omega))
      have hc5 := (bcell hb).1
      simp only [World.size_alloc] at hc5
      have HA5 := Lib.hid hb
      clear hb hc4
      go_wp2_with fail
      go_ret
      exact ⟨rfl, ((Below.refl w.heap.size w).alloc (Nat.le_refl _) _).trans (HA5.out.mono (by simp))⟩
    by_cases hb1 : body.size ≤ 1024
    · rw [decide_eq_true hb1] at hx
      obtain rfl : zn = x := by simpa using hx
      have hb2 : (body.size : Int) ≤ 1024 := by omega
      cases zn
      · go_enter Try.func28, Try.ntmps28
        go_wp2_with fail
        refine (from_any 0 1099511627776 _).mono ?_
        rintro e w1 ⟨p, q, rfl, hp0, hp1, hq0, hq1, kp, kq, hb⟩
        have hz1 := hb.size
        have hc1 := (bcell hb).1
        simp only [World.size_alloc] at hz1 hp0 hq0 hc1
        have HA1 := Lib.hid hb
        clear hb
        go_wp2_with fail
        refine (from_any 0 0 _).mono ?_
        rintro e w2 ⟨p', q', rfl, hp0', hp1', hq0', hq1', kp', kq', hb⟩
        have kp2 := ((bcell hb).1 p 0 hp1).trans kp
        have kq2 := ((bcell hb).1 q 0 hq1).trans kq
        have hz2 := hb.size
        have hb := HA1.out.trans (hb.mono (by simp only [World.size_alloc]; omega))
        have hc2 := (bcell hb).1
        simp only [World.size_alloc] at hc2
        have HA2 := Lib.hid hb
        clear hb kp kq HA1 hc1
        go_wp2_with fail
        refine (HNU.out _).mono ?_
        rintro e w3 ⟨v, rfl, hv, hb⟩
        have kp3 := ((bcell hb).1 p 0 (by omega)).trans kp2
        have kq3 := ((bcell hb).1 q 0 (by omega)).trans kq2
        have kp3' := ((bcell hb).1 p' 0 hp1').trans kp'
        have kq3' := ((bcell hb).1 q' 0 hq1').trans kq'
        have hz3 := hb.size
        have hb := HA2.out.trans (hb.mono (by simp only [World.size_alloc]; omega))
        have hc3 := (bcell hb).1
        simp only [World.size_alloc] at hc3
        have HA3 := Lib.hid hb
        have HV := Lib.hid hv
        clear hb kp2 kq2 kp' kq' hv hc2
        go_wp2_with fail
        refine (HRG.out v w3 p q HV.out kp3 kq3).mono ?_
        rintro e w4 ⟨rfl, rfl⟩
        clear kp3 kq3
        go_wp2_with fail
        refine (HBA.out w3 (((Below.refl w.heap.size w).alloc (Nat.le_refl _) _).trans (HA3.out.mono (by simp)))).mono ?_
        rintro e w4 ⟨rfl, hb⟩
        have kp4' := ((bcell hb).1 p' 0 (by omega)).trans kp3'
        have kq4' := ((bcell hb).1 q' 0 (by omega)).trans kq3'
        have hz4 := hb.size
        have hb := HA3.out.trans (hb.mono (by simp only [World.size_alloc]; omega))
        have hc4 := (bcell hb).1
        simp only [World.size_alloc] at hc4
        have HA4 := Lib.hid hb
        clear hb hc3
        go_wp2_with fail
        refine (HR1.out w4 p' q' kp4' kq4' (by omega) (by omega)).mono ?_
        rintro e w5 ⟨rfl, hb⟩
        have hz5 := hb.size
        have hb := HA4.out.trans (hb.mono (by simp only [World.size_alloc]; omega))
        have hc5 := (bcell hb).1
        simp only [World.size_alloc] at hc5
        have HA5 := Lib.hid hb
        clear hb hc4
        go_wp2_with fail
        refine (HNO.out _).mono ?_
        rintro e w6 ⟨rfl, hb⟩
        have hz6 := hb.size
        have hb := HA5.out.trans (hb.mono (by simp only [World.size_alloc]; omega))
        have hc6 := (bcell hb).1
        simp only [World.size_alloc] at hc6
        have HA6 := Lib.hid hb
        clear hb hc5
        go_wp2_with fail
        go_ret
        exact ⟨rfl, ((Below.refl w.heap.size w).alloc (Nat.le_refl _) _).trans (HA6.out.mono (by simp))⟩
      · go_enter Try.func28, Try.ntmps28
        go_wp2_with fail
        refine (from_any 0 1099511627776 _).mono ?_
        rintro e w1 ⟨p, q, rfl, hp0, hp1, hq0, hq1, kp, kq, hb⟩
        have hz1 := hb.size
        have hc1 := (bcell hb).1
        simp only [World.size_alloc] at hz1 hp0 hq0 hc1
        have HA1 := Lib.hid hb
        clear hb
        go_wp2_with fail
        refine (from_any 0 0 _).mono ?_
        rintro e w2 ⟨p', q', rfl, hp0', hp1', hq0', hq1', kp', kq', hb⟩
        have kp2 := ((bcell hb).1 p 0 hp1).trans kp
        have kq2 := ((bcell hb).1 q 0 hq1).trans kq
        have hz2 := hb.size
        have hb := HA1.out.trans (hb.mono (by simp only [World.size_alloc]; omega))
        have hc2 := (bcell hb).1
        simp only [World.size_alloc] at hc2
        have HA2 := Lib.hid hb
        clear hb kp kq HA1 hc1
        go_wp2_with fail
        refine (HNU.out _).mono ?_
        rintro e w3 ⟨v, rfl, hv, hb⟩
        have kp3 := ((bcell hb).1 p 0 (by omega)).trans kp2
        have kq3 := ((bcell hb).1 q 0 (by omega)).trans kq2
        have kp3' := ((bcell hb).1 p' 0 hp1').trans kp'
        have kq3' := ((bcell hb).1 q' 0 hq1').trans kq'
        have hz3 := hb.size
        have hb := HA2.out.trans (hb.mono (by simp only [World.size_alloc]; omega))
        have hc3 := (bcell hb).1
        simp only [World.size_alloc] at hc3
        have HA3 := Lib.hid hb
        have HV := Lib.hid hv
        clear hb kp2 kq2 kp' kq' hv hc2
        go_wp2_with fail
        refine (HRG.out v w3 p q HV.out kp3 kq3).mono ?_
        rintro e w4 ⟨rfl, rfl⟩
        clear kp3 kq3
        go_wp2_with fail
        refine (HBA.out w3 (((Below.refl w.heap.size w).alloc (Nat.le_refl _) _).trans (HA3.out.mono (by simp)))).mono ?_
        rintro e w4 ⟨rfl, hb⟩
        have kp4' := ((bcell hb).1 p' 0 (by omega)).trans kp3'
        have kq4' := ((bcell hb).1 q' 0 (by omega)).trans kq3'
        have hz4 := hb.size
        have hb := HA3.out.trans (hb.mono (by simp only [World.size_alloc]; omega))
        have hc4 := (bcell hb).1
        simp only [World.size_alloc] at hc4
        have HA4 := Lib.hid hb
        clear hb hc3
        go_wp2_with fail
        refine (HR1.out w4 p' q' kp4' kq4' (by omega) (by omega)).mono ?_
        rintro e w5 ⟨rfl, hb⟩
        have hz5 := hb.size
        have hb := HA4.out.trans (hb.mono (by simp only [World.size_alloc]; omega))
        have hc5 := (bcell hb).1
        simp only [World.size_alloc] at hc5
        have HA5 := Lib.hid hb
        clear hb hc4
        go_wp2_with fail
        refine (HNO.out _).mono ?_
        rintro e w6 ⟨rfl, hb⟩
        have hz6 := hb.size
        have hb := HA5.out.trans (hb.mono (by simp only [World.size_alloc]; omega))
        have hc6 := (bcell hb).1
        simp only [World.size_alloc] at hc6
        have HA6 := Lib.hid hb
        clear hb hc5
        go_wp2_with fail
        go_ret
        exact ⟨rfl, ((Below.refl w.heap.size w).alloc (Nat.le_refl _) _).trans (HA6.out.mono (by simp))⟩
    · rw [decide_eq_false hb1] at hx
      obtain rfl : false = x := by simpa using hx
      have hb2 : decide ((body.size : Int) ≤ 1024) = false := decide_eq_false (by omega)
      go_enter Try.func28, Try.ntmps28
      go_wp2_with fail
      refine (from_any 0 1099511627776 _).mono ?_
      rintro e w1 ⟨p, q, rfl, hp0, hp1, hq0, hq1, kp, kq, hb⟩
      have hz1 := hb.size
      have hc1 := (bcell hb).1
      simp only [World.size_alloc] at hz1 hp0 hq0 hc1
      have HA1 := Lib.hid hb
      clear hb
      go_wp2_with fail
      refine (from_any 0 0 _).mono ?_
      rintro e w2 ⟨p', q', rfl, hp0', hp1', hq0', hq1', kp', kq', hb⟩
      have kp2 := ((bcell hb).1 p 0 hp1).trans kp
      have kq2 := ((bcell hb).1 q 0 hq1).trans kq
      have hz2 := hb.size
      have hb := HA1.out.trans (hb.mono (by simp only [World.size_alloc]; omega))
      have hc2 := (bcell hb).1
      simp only [World.size_alloc] at hc2
      have HA2 := Lib.hid hb
      clear hb kp kq HA1 hc1
      go_wp2_with fail
      refine (HNU.out _).mono ?_
      rintro e w3 ⟨v, rfl, hv, hb⟩
      have kp3 := ((bcell hb).1 p 0 (by omega)).trans kp2
      have kq3 := ((bcell hb).1 q 0 (by omega)).trans kq2
      have kp3' := ((bcell hb).1 p' 0 hp1').trans kp'
      have kq3' := ((bcell hb).1 q' 0 hq1').trans kq'
      have hz3 := hb.size
      have hb := HA2.out.trans (hb.mono (by simp only [World.size_alloc]; omega))
      have hc3 := (bcell hb).1
      simp only [World.size_alloc] at hc3
      have HA3 := Lib.hid hb
      have HV := Lib.hid hv
      clear hb kp2 kq2 kp' kq' hv hc2
      go_wp2_with fail
      refine (HRG.out v w3 p q HV.out kp3 kq3).mono ?_
      rintro e w4 ⟨rfl, rfl⟩
      clear kp3 kq3
      go_wp2_with fail
      refine (HBA.out w3 (((Below.refl w.heap.size w).alloc (Nat.le_refl _) _).trans (HA3.out.mono (by simp)))).mono ?_
      rintro e w4 ⟨rfl, hb⟩
      have kp4' := ((bcell hb).1 p' 0 (by omega)).trans kp3'
      have kq4' := ((bcell hb).1 q' 0 (by omega)).trans kq3'
      have hz4 := hb.size
      have hb := HA3.out.trans (hb.mono (by simp only [World.size_alloc]; omega))
      have hc4 := (bcell hb).1
      simp only [World.size_alloc] at hc4
      have HA4 := Lib.hid hb
      clear hb hc3
      go_wp2_with fail
      refine (HR1.out w4 p' q' kp4' kq4' (by omega) (by omega)).mono ?_
      rintro e w5 ⟨rfl, hb⟩
      have hz5 := hb.size
      have hb := HA4.out.trans (hb.mono (by simp only [World.size_alloc]; omega))
      have hc5 := (bcell hb).1
      simp only [World.size_alloc] at hc5
      have HA5 := Lib.hid hb
      clear hb hc4
      go_wp2_with fail
      go_ret
      exact ⟨rfl, ((Below.refl w.heap.size w).alloc (Nat.le_refl _) _).trans (HA5.out.mono (by simp))⟩
  rw [if_neg hk0] at hx
  have k0 : (kind == 0) = false := by simpa using hk0
  by_cases hk1 : kind = 1
  · subst hk1
    rw [if_pos rfl] at hx
    clear k0 hk0
    cases zw
    · obtain rfl : false = x := by simpa using hx
      go_enter Try.func28, Try.ntmps28
      go_wp2_with fail
      refine (from_any 0 1099511627776 _).mono ?_
      rintro e w1 ⟨p, q, rfl, hp0, hp1, hq0, hq1, kp, kq, hb⟩
      have hz1 := hb.size
      have hc1 := (bcell hb).1
      simp only [World.size_alloc] at hz1 hp0 hq0 hc1
      have HA1 := Lib.hid hb
      clear hb
      go_wp2_with fail
      refine (from_any 0 0 _).mono ?_
      rintro e w2 ⟨p', q', rfl, hp0', hp1', hq0', hq1', kp', kq', hb⟩
      have kp2 := ((bcell hb).1 p 0 hp1).trans kp
      have kq2 := ((bcell hb).1 q 0 hq1).trans kq
      have hz2 := hb.size
      have hb := HA1.out.trans (hb.mono (by simp only [World.size_alloc]; omega))
      have hc2 := (bcell hb).1
      simp only [World.size_alloc] at hc2
      have HA2 := Lib.hid hb
      clear hb kp kq HA1 hc1
      go_wp2_with fail
      refine (HNU.out _).mono ?_
      rintro e w3 ⟨v, rfl, hv, hb⟩
      have kp3 := ((bcell hb).1 p 0 (by omega)).trans kp2
      have kq3 := ((bcell hb).1 q 0 (by omega)).trans kq2
      have kp3' := ((bcell hb).1 p' 0 hp1').trans kp'
      have kq3' := ((bcell hb).1 q' 0 hq1').trans kq'
      have hz3 := hb.size
      have hb := HA2.out.trans (hb.mono (by simp only [World.size_alloc]; omega))
      have hc3 := (bcell hb).1
      simp only [World.size_alloc] at hc3
      have HA3 := Lib.hid hb
      have HV := Lib.hid hv
      clear hb kp2 kq2 kp' kq' hv hc2
      go_wp2_with fail
      refine (HRG.out v w3 p q HV.out kp3 kq3).mono ?_
      rintro e w4 ⟨rfl, rfl⟩
      clear kp3 kq3
      go_wp2_with fail
      refine (HWH.out w3 (((Below.refl w.heap.size w).alloc (Nat.le_refl _) _).trans (HA3.out.mono (by simp)))).mono ?_
      rintro e w4 ⟨rfl, hb⟩
      have kp4' := ((bcell hb).1 p' 0 (by omega)).trans kp3'
      have kq4' := ((bcell hb).1 q' 0 (by omega)).trans kq3'
      have hz4 := hb.size
      have hb := HA3.out.trans (hb.mono (by simp only [World.size_alloc]; omega))
      have hc4 := (bcell hb).1
      simp only [World.size_alloc] at hc4
      have HA4 := Lib.hid hb
      clear hb hc3
      go_wp2_with fail
      go_ret
      exact ⟨rfl, ((Below.refl w.heap.size w).alloc (Nat.le_refl _) _).trans (HA4.out.mono (by simp))⟩
    obtain rfl : z2 = x := by simpa using hx
    cases z2
    · go_enter Try.func28, Try.ntmps28
      go_wp2_with fail
      refine (from_any 0 1099511627776 _).mono ?_
      rintro e w1 ⟨p, q, rfl, hp0, hp1, hq0, hq1, kp, kq, hb⟩
      have hz1 := hb.size
      have hc1 := (bcell hb).1
      simp only [World.size_alloc] at hz1 hp0 hq0 hc1
      have HA1 := Lib.hid hb
      clear hb
      go_wp2_with fail
      refine (from_any 0 0 _).mono ?_
      rintro e w2 ⟨p', q', rfl, hp0', hp1', hq0', hq1', kp', kq', hb⟩
      have kp2 := ((bcell hb).1 p 0 hp1).trans kp
      have kq2 := ((bcell hb).1 q 0 hq1).trans kq
      have hz2 := hb.size
      have hb := HA1.out.trans (hb.mono (by simp only [World.size_alloc]; omega))
      have hc2 := (bcell hb).1
      simp only [World.size_alloc] at hc2
      have HA2 := Lib.hid hb
      clear hb kp kq HA1 hc1
      go_wp2_with fail
      refine (HNU.out _).mono ?_
      rintro e w3 ⟨v, rfl, hv, hb⟩
      have kp3 := ((bcell hb).1 p 0 (by omega)).trans kp2
      have kq3 := ((bcell hb).1 q 0 (by omega)).trans kq2
      have kp3' := ((bcell hb).1 p' 0 hp1').trans kp'
      have kq3' := ((bcell hb).1 q' 0 hq1').trans kq'
      have hz3 := hb.size
      have hb := HA2.out.trans (hb.mono (by simp only [World.size_alloc]; omega))
      have hc3 := (bcell hb).1
      simp only [World.size_alloc] at hc3
      have HA3 := Lib.hid hb
      have HV := Lib.hid hv
      clear hb kp2 kq2 kp' kq' hv hc2
      go_wp2_with fail
      refine (HRG.out v w3 p q HV.out kp3 kq3).mono ?_
      rintro e w4 ⟨rfl, rfl⟩
      clear kp3 kq3
      go_wp2_with fail
      refine (HWH.out w3 (((Below.refl w.heap.size w).alloc (Nat.le_refl _) _).trans (HA3.out.mono (by simp)))).mono ?_
      rintro e w4 ⟨rfl, hb⟩
      have kp4' := ((bcell hb).1 p' 0 (by omega)).trans kp3'
      have kq4' := ((bcell hb).1 q' 0 (by omega)).trans kq3'
      have hz4 := hb.size
      have hb := HA3.out.trans (hb.mono (by simp only [World.size_alloc]; omega))
      have hc4 := (bcell hb).1
      simp only [World.size_alloc] at hc4
      have HA4 := Lib.hid hb
      clear hb hc3
      go_wp2_with fail
      refine (HR2.out w4 p' q' kp4' kq4' (by omega) (by omega)).mono ?_
      rintro e w5 ⟨rfl, hb⟩
      have hz5 := hb.size
      have hb := HA4.out.trans (hb.mono (by simp only [World.size_alloc]; omega))
      have hc5 := (bcell hb).1
      simp only [World.size_alloc] at hc5
      have HA5 := Lib.hid hb
      clear hb hc4
      go_wp2_with fail
      go_ret
      exact ⟨rfl, ((Below.refl w.heap.size w).alloc (Nat.le_refl _) _).trans (HA5.out.mono (by simp))⟩
    · go_enter Try.func28, Try.ntmps28
      go_wp2_with fail
      refine (from_any 0 1099511627776 _).mono ?_
      rintro e w1 ⟨p, q, rfl, hp0, hp1, hq0, hq1, kp, kq, hb⟩
      have hz1 := hb.size
      have hc1 := (bcell hb).1
      simp only [World.size_alloc] at hz1 hp0 hq0 hc1
      have HA1 := Lib.hid hb
      clear hb
      go_wp2_with fail
      refine (from_any 0 0 _).mono ?_
      rintro e w2 ⟨p', q', rfl, hp0', hp1', hq0', hq1', kp', kq', hb⟩
      have kp2 := ((bcell hb).1 p 0 hp1).trans kp
      have kq2 := ((bcell hb).1 q 0 hq1).trans kq
      have hz2 := hb.size
      have hb := HA1.out.trans (hb.mono (by simp only [World.size_alloc]; omega))
      have hc2 := (bcell hb).1
      simp only [World.size_alloc] at hc2
      have HA2 := Lib.hid hb
      clear hb kp kq HA1 hc1
      go_wp2_with fail
      refine (HNU.out _).mono ?_
      rintro e w3 ⟨v, rfl, hv, hb⟩
      have kp3 := ((bcell hb).1 p 0 (by omega)).trans kp2
      have kq3 := ((bcell hb).1 q 0 (by omega)).trans kq2
      have kp3' := ((bcell hb).1 p' 0 hp1').trans kp'
      have kq3' := ((bcell hb).1 q' 0 hq1').trans kq'
      have hz3 := hb.size
      have hb := HA2.out.trans (hb.mono (by simp only [World.size_alloc]; omega))
      have hc3 := (bcell hb).1
      simp only [World.size_alloc] at hc3
      have HA3 := Lib.hid hb
      have HV := Lib.hid hv
      clear hb kp2 kq2 kp' kq' hv hc2
      go_wp2_with fail
      refine (HRG.out v w3 p q HV.out kp3 kq3).mono ?_
      rintro e w4 ⟨rfl, rfl⟩
      clear kp3 kq3
      go_wp2_with fail
      refine (HWH.out w3 (((Below.refl w.heap.size w).alloc (Nat.le_refl _) _).trans (HA3.out.mono (by simp)))).mono ?_
      rintro e w4 ⟨rfl, hb⟩
      have kp4' := ((bcell hb).1 p' 0 (by omega)).trans kp3'
      have kq4' := ((bcell hb).1 q' 0 (by omega)).trans kq3'
      have hz4 := hb.size
      have hb := HA3.out.trans (hb.mono (by simp only [World.size_alloc]; omega))
      have hc4 := (bcell hb).1
      simp only [World.size_alloc] at hc4
      have HA4 := Lib.hid hb
      clear hb hc3
      go_wp2_with fail
      refine (HR2.out w4 p' q' kp4' kq4' (by omega) (by omega)).mono ?_
      rintro e w5 ⟨rfl, hb⟩
      have hz5 := hb.size
      have hb := HA4.out.trans (hb.mono (by simp only [World.size_alloc]; omega))
      have hc5 := (bcell hb).1
      simp only [World.size_alloc] at hc5
      have HA5 := Lib.hid hb
      clear hb hc4
      go_wp2_with fail
      go_ret
      exact ⟨rfl, ((Below.refl w.heap.size w).alloc (Nat.le_refl _) _).trans (HA5.out.mono (by simp))⟩
  rw [if_neg hk1] at hx
  have k1 : (kind == 1) = false := by simpa using hk1
  by_cases hk2 : kind = 2
  · subst hk2
    rw [if_pos (.inl rfl)] at hx
    clear k0 k1 hk0 hk1
    obtain rfl : zw = x := by simpa using hx
    go_enter Try.func28, Try.ntmps28
    go_wp2_with fail
    refine (from_any 0 1099511627776 _).mono ?_
    rintro e w1 ⟨p, q, rfl, hp0, hp1, hq0, hq1, kp, kq, hb⟩
    have hz1 := hb.size
    have hc1 := (bcell hb).1
    simp only [World.size_alloc] at hz1 hp0 hq0 hc1
    have HA1 := Lib.hid hb
    clear hb
    go_wp2_with fail
    refine (from_any 0 0 _).mono ?_
    rintro e w2 ⟨p', q', rfl, hp0', hp1', hq0', hq1', kp', kq', hb⟩
    have kp2 := ((bcell hb).1 p 0 hp1).trans kp
    have kq2 := ((bcell hb).1 q 0 hq1).trans kq
    have hz2 := hb.size
    have hb := HA1.out.trans (hb.mono (by simp only [World.size_alloc]; omega))
    have hc2 := (bcell hb).1
    simp only [World.size_alloc] at hc2
    have HA2 := Lib.hid hb
    clear hb kp kq HA1 hc1
    go_wp2_with fail
    refine (HNU.out _).mono ?_
    rintro e w3 ⟨v, rfl, hv, hb⟩
    have kp3 := ((bcell hb).1 p 0 (by omega)).trans kp2
    have kq3 := ((bcell hb).1 q 0 (by omega)).trans kq2
    have kp3' := ((bcell hb).1 p' 0 hp1').trans kp'
    have kq3' := ((bcell hb).1 q' 0 hq1').trans kq'
    have hz3 := hb.size
    have hb := HA2.out.trans (hb.mono (by simp only [World.size_alloc]; omega))
    have hc3 := (bcell hb).1
    simp only [World.size_alloc] at hc3
    have HA3 := Lib.hid hb
    have HV := Lib.hid hv
    clear hb kp2 kq2 kp' kq' hv hc2
    go_wp2_with fail
    refine (HRG.out v w3 p q HV.out kp3 kq3).mono ?_
    rintro e w4 ⟨rfl, rfl⟩
    clear kp3 kq3
    go_wp2_with fail
    refine (HWH.out w3 (((Below.refl w.heap.size w).alloc (Nat.le_refl _) _).trans (HA3.out.mono (by simp)))).mono ?_
    rintro e w4 ⟨rfl, hb⟩
    have kp4' := ((bcell hb).1 p' 0 (by omega)).trans kp3'
    have kq4' := ((bcell hb).1 q' 0 (by omega)).trans kq3'
    have hz4 := hb.size
    have hb := HA3.out.trans (hb.mono (by simp only [World.size_alloc]; omega))
    have hc4 := (bcell hb).1
    simp only [World.size_alloc] at hc4
    have HA4 := Lib.hid hb
    clear hb hc3
    go_wp2_with fail
    go_ret
    exact ⟨rfl, ((Below.refl w.heap.size w).alloc (Nat.le_refl _) _).trans (HA4.out.mono (by simp))⟩
  have k2 : (kind == 2) = false := by simpa using hk2
  by_cases hk3 : kind = 3
  · subst hk3
    rw [if_pos (.inr rfl)] at hx
    clear k0 k1 k2 hk0 hk1 hk2
    obtain rfl : zw = x := by simpa using hx
    go_enter Try.func28, Try.ntmps28
    go_wp2_with fail
    refine (from_any 0 1099511627776 _).mono ?_
    rintro e w1 ⟨p, q, rfl, hp0, hp1, hq0, hq1, kp, kq, hb⟩
    have hz1 := hb.size
    have hc1 := (bcell hb).1
    simp only [World.size_alloc] at hz1 hp0 hq0 hc1
    have HA1 := Lib.hid hb
    clear hb
    go_wp2_with fail
    refine (from_any 0 0 _).mono ?_
    rintro e w2 ⟨p', q', rfl, hp0', hp1', hq0', hq1', kp', kq', hb⟩
    have kp2 := ((bcell hb).1 p 0 hp1).trans kp
    have kq2 := ((bcell hb).1 q 0 hq1).trans kq
    have hz2 := hb.size
    have hb := HA1.out.trans (hb.mono (by simp only [World.size_alloc]; omega))
    have hc2 := (bcell hb).1
    simp only [World.size_alloc] at hc2
    have HA2 := Lib.hid hb
    clear hb kp kq HA1 hc1
    go_wp2_with fail
    refine (HNU.out _).mono ?_
    rintro e w3 ⟨v, rfl, hv, hb⟩
    have kp3 := ((bcell hb).1 p 0 (by omega)).trans kp2
    have kq3 := ((bcell hb).1 q 0 (by omega)).trans kq2
    have kp3' := ((bcell hb).1 p' 0 hp1').trans kp'
    have kq3' := ((bcell hb).1 q' 0 hq1').trans kq'
    have hz3 := hb.size
    have hb := HA2.out.trans (hb.mono (by simp only [World.size_alloc]; omega))
    have hc3 := (bcell hb).1
    simp only [World.size_alloc] at hc3
    have HA3 := Lib.hid hb
    have HV := Lib.hid hv
    clear hb kp2 kq2 kp' kq' hv hc2
    go_wp2_with fail
    refine (HRG.out v w3 p q HV.out kp3 kq3).mono ?_
    rintro e w4 ⟨rfl, rfl⟩
    clear kp3 kq3
    go_wp2_with fail
    refine (HWH.out w3 (((Below.refl w.heap.size w).alloc (Nat.le_refl _) _).trans (HA3.out.mono (by simp)))).mono ?_
    rintro e w4 ⟨rfl, hb⟩
    have kp4' := ((bcell hb).1 p' 0 (by omega)).trans kp3'
    have kq4' := ((bcell hb).1 q' 0 (by omega)).trans kq3'
    have hz4 := hb.size
    have hb := HA3.out.trans (hb.mono (by simp only [World.size_alloc]; omega))
    have hc4 := (bcell hb).1
    simp only [World.size_alloc] at hc4
    have HA4 := Lib.hid hb
    clear hb hc3
    go_wp2_with fail
    go_ret
    exact ⟨rfl, ((Below.refl w.heap.size w).alloc (Nat.le_refl _) _).trans (HA4.out.mono (by simp))⟩
  rw [if_neg (fun h => h.elim hk2 hk3)] at hx
  have k3 : (kind == 3) = false := by simpa using hk3
  by_cases hk4 : kind = 4
  · subst hk4
    rw [if_pos rfl] at hx
    clear k0 k1 k2 k3 hk0 hk1 hk2 hk3
    cases zb
    · obtain rfl : false = x := by simpa using hx
      go_enter Try.func28, Try.ntmps28
      go_wp2_with fail
      refine (from_any 0 1099511627776 _).mono ?_
      rintro e w1 ⟨p, q, rfl, hp0, hp1, hq0, hq1, kp, kq, hb⟩
      have hz1 := hb.size
      have hc1 := (bcell hb).1
      simp only [World.size_alloc] at hz1 hp0 hq0 hc1
      have HA1 := Lib.hid hb
      clear hb
      go_wp2_with fail
      refine (from_any 0 0 _).mono ?_
      rintro e w2 ⟨p', q', rfl, hp0', hp1', hq0', hq1', kp', kq', hb⟩
      have kp2 := ((bcell hb).1 p 0 hp1).trans kp
      have kq2 := ((bcell hb).1 q 0 hq1).trans kq
      have hz2 := hb.size
      have hb := HA1.out.trans (hb.mono (by simp only [World.size_alloc]; omega))
      have hc2 := (bcell hb).1
      simp only [World.size_alloc] at hc2
      have HA2 := Lib.hid hb
      clear hb kp kq HA1 hc1
      go_wp2_with fail
      refine (HNU.out _).mono ?_
      rintro e w3 ⟨v, rfl, hv, hb⟩
      have kp3 := ((bcell hb).1 p 0 (by omega)).trans kp2
      have kq3 := ((bcell hb).1 q 0 (by omega)).trans kq2
      have kp3' := ((bcell hb).1 p' 0 hp1').trans kp'
      have kq3' := ((bcell hb).1 q' 0 hq1').trans kq'
      have hz3 := hb.size
      have hb := HA2.out.trans (hb.mono (by simp only [World.size_alloc]; omega))
      have hc3 := (bcell hb).1
      simp only [World.size_alloc] at hc3
      have HA3 := Lib.hid hb
      have HV := Lib.hid hv
      clear hb kp2 kq2 kp' kq' hv hc2
      go_wp2_with fail
      refine (HRG.out v w3 p q HV.out kp3 kq3).mono ?_
      rintro e w4 ⟨rfl, rfl⟩
      clear kp3 kq3
      go_wp2_with fail
      refine (HBA.out w3 (((Below.refl w.heap.size w).alloc (Nat.le_refl _) _).trans (HA3.out.mono (by simp)))).mono ?_
      rintro e w4 ⟨rfl, hb⟩
      have kp4' := ((bcell hb).1 p' 0 (by omega)).trans kp3'
      have kq4' := ((bcell hb).1 q' 0 (by omega)).trans kq3'
      have hz4 := hb.size
      have hb := HA3.out.trans (hb.mono (by simp only [World.size_alloc]; omega))
      have hc4 := (bcell hb).1
      simp only [World.size_alloc] at hc4
      have HA4 := Lib.hid hb
      clear hb hc3
      go_wp2_with fail
      go_ret
      exact ⟨rfl, ((Below.refl w.heap.size w).alloc (Nat.le_refl _) _).trans (HA4.out.mono (by simp))⟩
    cases hbe : body.toList.isEmpty
    · rw [hbe] at hx
      obtain rfl : false = x := by simpa using hx
      go_enter Try.func28, Try.ntmps28
      go_wp2_with fail
      refine (from_any 0 1099511627776 _).mono ?_
      rintro e w1 ⟨p, q, rfl, hp0, hp1, hq0, hq1, kp, kq, hb⟩
      have hz1 := hb.size
      have hc1 := (bcell hb).1
      simp only [World.size_alloc] at hz1 hp0 hq0 hc1
      have HA1 := Lib.hid hb
      clear hb
      go_wp2_with fail
      refine (from_any 0 0 _).mono ?_
      rintro e w2 ⟨p', q', rfl, hp0', hp1', hq0', hq1', kp', kq', hb⟩
      have kp2 := ((bcell hb).1 p 0 hp1).trans kp
      have kq2 := ((bcell hb).1 q 0 hq1).trans kq
      have hz2 := hb.size
      have hb := HA1.out.trans (hb.mono (by simp only [World.size_alloc]; omega))
      have hc2 := (bcell hb).1
      simp only [World.size_alloc] at hc2
      have HA2 := Lib.hid hb
      clear hb kp kq HA1 hc1
      go_wp2_with fail
      refine (HNU.out _).mono ?_
      rintro e w3 ⟨v, rfl, hv, hb⟩
      have kp3 := ((bcell hb).1 p 0 (by omega)).trans kp2
      have kq3 := ((bcell hb).1 q 0 (by omega)).trans kq2
      have kp3' := ((bcell hb).1 p' 0 hp1').trans kp'
      have kq3' := ((bcell hb).1 q' 0 hq1').trans kq'
      have hz3 := hb.size
      have hb := HA2.out.trans (hb.mono (by simp only [World.size_alloc]; omega))
      have hc3 := (bcell hb).1
      simp only [World.size_alloc] at hc3
      have HA3 := Lib.hid hb
      have HV := Lib.hid hv
      clear hb kp2 kq2 kp' kq' hv hc2
      go_wp2_with fail
      refine (HRG.out v w3 p q HV.out kp3 kq3).mono ?_
      rintro e w4 ⟨rfl, rfl⟩
      clear kp3 kq3
      go_wp2_with fail
      refine (HBA.out w3 (((Below.refl w.heap.size w).alloc (Nat.le_refl _) _).trans (HA3.out.mono (by simp)))).mono ?_
      rintro e w4 ⟨rfl, hb⟩
      have kp4' := ((bcell hb).1 p' 0 (by omega)).trans kp3'
      have kq4' := ((bcell hb).1 q' 0 (by omega)).trans kq3'
      have hz4 := hb.size
      have hb := HA3.out.trans (hb.mono (by simp only [World.size_alloc]; omega))
      have hc4 := (bcell hb).1
      simp only [World.size_alloc] at hc4
      have HA4 := Lib.hid hb
      clear hb hc3
      go_wp2_with fail
      go_ret
      exact ⟨rfl, ((Below.refl w.heap.size w).alloc (Nat.le_refl _) _).trans (HA4.out.mono (by simp))⟩
    · rw [hbe] at hx
      obtain rfl : true = x := by simpa using hx
      go_enter Try.func28, Try.ntmps28
      go_wp2_with fail
      refine (from_any 0 1099511627776 _).mono ?_
      rintro e w1 ⟨p, q, rfl, hp0, hp1, hq0, hq1, kp, kq, hb⟩
      have hz1 := hb.size
      have hc1 := (bcell hb).1
      simp only [World.size_alloc] at hz1 hp0 hq0 hc1
      have HA1 := Lib.hid hb
      clear hb
      go_wp2_with fail
      refine (from_any 0 0 _).mono ?_
      rintro e w2 ⟨p', q', rfl, hp0', hp1', hq0', hq1', kp', kq', hb⟩
      have kp2 := ((bcell hb).1 p 0 hp1).trans kp
      have kq2 := ((bcell hb).1 q 0 hq1).trans kq
      have hz2 := hb.size
      have hb := HA1.out.trans (hb.mono (by simp only [World.size_alloc]; omega))
      have hc2 := (bcell hb).1
      simp only [World.size_alloc] at hc2
      have HA2 := Lib.hid hb
      clear hb kp kq HA1 hc1
      go_wp2_with fail
      refine (HNU.out _).mono ?_
      rintro e w3 ⟨v, rfl, hv, hb⟩
      have kp3 := ((bcell hb).1 p 0 (by omega)).trans kp2
      have kq3 := ((bcell hb).1 q 0 (by omega)).trans kq2
      have kp3' := ((bcell hb).1 p' 0 hp1').trans kp'
      have kq3' := ((bcell hb).1 q' 0 hq1').trans kq'
      have hz3 := hb.size
      have hb := HA2.out.trans (hb.mono (by simp only [World.size_alloc]; omega))
      have hc3 := (bcell hb).1
      simp only [World.size_alloc] at hc3
      have HA3 := Lib.hid hb
      have HV := Lib.hid hv
      clear hb kp2 kq2 kp' kq' hv hc2
      go_wp2_with fail
      refine (HRG.out v w3 p q HV.out kp3 kq3).mono ?_
      rintro e w4 ⟨rfl, rfl⟩
      clear kp3 kq3
      go_wp2_with fail
      refine (HBA.out w3 (((Below.refl w.heap.size w).alloc (Nat.le_refl _) _).trans (HA3.out.mono (by simp)))).mono ?_
      rintro e w4 ⟨rfl, hb⟩
      have kp4' := ((bcell hb).1 p' 0 (by omega)).trans kp3'
      have kq4' := ((bcell hb).1 q' 0 (by omega)).trans kq3'
      have hz4 := hb.size
      have hb := HA3.out.trans (hb.mono (by simp only [World.size_alloc]; omega))
      have hc4 := (bcell hb).1
      simp only [World.size_alloc] at hc4
      have HA4 := Lib.hid hb
      clear hb hc3
      go_wp2_with fail
      go_ret
      exact ⟨rfl, ((Below.refl w.heap.size w).alloc (Nat.le_refl _) _).trans (HA4.out.mono (by simp))⟩
  rw [if_neg hk4] at hx
  obtain rfl : false = x := by simpa using hx
  have k4 : (kind == 4) = false := by simpa using hk4
  clear hk0 hk1 hk2 hk3 hk4 hx
  go_enter Try.func28, Try.ntmps28
  go_wp2_with fail
  refine (from_any 0 1099511627776 _).mono ?_
  rintro e w1 ⟨p, q, rfl, hp0, hp1, hq0, hq1, kp, kq, hb⟩
  have hz1 := hb.size
  have hc1 := (bcell hb).1
  simp only [World.size_alloc] at hz1 hp0 hq0 hc1
  have HA1 := Lib.hid hb
  clear hb
  go_wp2_with fail
  refine (from_any 0 0 _).mono ?_
  rintro e w2 ⟨p', q', rfl, hp0', hp1', hq0', hq1', kp', kq', hb⟩
  have kp2 := ((bcell hb).1 p 0 hp1).trans kp
  have kq2 := ((bcell hb).1 q 0 hq1).trans kq
  have hz2 := hb.size
  have hb := HA1.out.trans (hb.mono (by simp only [World.size_alloc]; omega))
  have hc2 := (bcell hb).1
  simp only [World.size_alloc] at hc2
  have HA2 := Lib.hid hb
  clear hb kp kq HA1 hc1
  go_wp2_with fail
  refine (HNU.out _).mono ?_
  rintro e w3 ⟨v, rfl, hv, hb⟩
  have kp3 := ((bcell hb).1 p 0 (by omega)).trans kp2
  have kq3 := ((bcell hb).1 q 0 (by omega)).trans kq2
  have kp3' := ((bcell hb).1 p' 0 hp1').trans kp'
  have kq3' := ((bcell hb).1 q' 0 hq1').trans kq'
  have hz3 := hb.size
  have hb := HA2.out.trans (hb.mono (by simp only [World.size_alloc]; omega))
  have hc3 := (bcell hb).1
  simp only [World.size_alloc] at hc3
  have HA3 := Lib.hid hb
  have HV := Lib.hid hv
  clear hb kp2 kq2 kp' kq' hv hc2
  go_wp2_with fail
  refine (HRG.out v w3 p q HV.out kp3 kq3).mono ?_
  rintro e w4 ⟨rfl, rfl⟩
  clear kp3 kq3
  go_wp2_with fail
  go_ret
  exact ⟨rfl, ((Below.refl w.heap.size w).alloc (Nat.le_refl _) _).trans (HA3.out.mono (by simp))⟩
end Go.Proofs.Ytmekmcgdjlmmcaa

namespace Go.Proofs.Ytmekmcgdjlmmcaa
open Go.RowKit Go.Deep
set_option linter.unusedVariables false
set_option linter.unusedSimpArgs false

/-- A block that holds a record. -/
def Box (w : World) (b : Nat) (cs : Array Value) : Prop := w.heap[b]? = some (.cells cs 24 (0, 0))
theorem Box.lt {w : World} {b : Nat} {cs : Array Value} (h : Box w b cs) : b < w.heap.size := (Array.getElem?_eq_some_iff.1 h).1
theorem Box.cell {w : World} {b : Nat} {cs : Array Value} (h : Box w b cs) (i : Nat) : w.cell? ⟨b, i, none⟩ = cs[i]? := by
  unfold Box at h
  unfold World.cell?
  simp only [h]
  simp
theorem Box.free {w : World} {b : Nat} {cs : Array Value} (h : Box w b cs) (i : Nat) : w.frozen? ⟨b, i, none⟩ = false := by
  unfold Box at h
  simp [World.frozen?, h]
theorem Box.set {w : World} {b : Nat} {cs : Array Value} (h : Box w b cs) (i : Nat) (v : Value) : Box (w.setCell ⟨b, i, none⟩ v) b (cs.setIfInBounds i v) := by
  unfold Box at *
  unfold World.setCell
  simp [h, Array.getElem?_modify]
theorem Box.setO {w : World} {b b' : Nat} {cs : Array Value} (h : Box w b cs) (hb : b ≠ b') (i : Nat) (v : Value) : Box (w.setCell ⟨b', i, none⟩ v) b cs := by
  unfold Box at *
  rw [Below.heap_setCell _ _ _ _ (by simpa using hb)]
  exact h
theorem Box.grown {w w' : World} {b r : Nat} {cs : Array Value} (h : Box w b cs) (hg : w.grownBy w' (some r)) (hb : b ≠ r) : Box w' b cs := (hg.block b h.lt (by simpa using hb)).trans h
theorem Box.below {w w' : World} {b B : Nat} {cs : Array Value} (h : Box w b cs) (hg : Below B w w') (hb : b < B) : Box w' b cs := by
  unfold Box at *
  rw [hg.block b hb]
  exact h
theorem Box.new (w : World) (cs : Array Value) : Box (w.alloc (.cells cs 24)) w.heap.size cs := heap_alloc_new w _
theorem Box.alloc {w : World} {b : Nat} {cs : Array Value} (h : Box w b cs) (o : Obj) : Box (w.alloc o) b cs := (Below.heap_alloc w o b h.lt).trans h
def zc : Array Value := #[.int .i64 0, .int .i64 0, .int .i64 0, .int .i64 0, .int .i64 0, .int .i64 0, .string ⟨#[]⟩, .string ⟨#[]⟩, .string ⟨#[]⟩, .slice none 0 0]
def zeroM : MsgM := ⟨0, 0, 0, 0, 0, 0, ⟨#[]⟩, ⟨#[]⟩, ⟨#[]⟩, []⟩
def set10 (w : World) (P : Nat) (c0 c1 c2 c3 c4 c5 c6 c7 c8 c9 : Value) : World :=
  (((((((((w.setCell ⟨P, 0, none⟩ c0).setCell ⟨P, 1, none⟩ c1).setCell ⟨P, 2, none⟩ c2).setCell ⟨P, 3, none⟩ c3).setCell ⟨P, 4, none⟩ c4).setCell ⟨P, 5, none⟩ c5).setCell ⟨P, 6, none⟩ c6).setCell ⟨P, 7, none⟩ c7).setCell ⟨P, 8, none⟩ c8).setCell ⟨P, 9, none⟩ c9
theorem box_set10 {w : World} {P : Nat} (h : Box w P zc) (c0 c1 c2 c3 c4 c5 c6 c7 c8 c9 : Value) : Box (set10 w P c0 c1 c2 c3 c4 c5 c6 c7 c8 c9) P #[c0, c1, c2, c3, c4, c5, c6, c7, c8, c9] := by
  have h1 := (((((((((h.set 0 c0).set 1 c1).set 2 c2).set 3 c3).set 4 c4).set 5 c5).set 6 c6).set 7 c7).set 8 c8).set 9 c9
  have e : (((((((((zc.setIfInBounds 0 c0).setIfInBounds 1 c1).setIfInBounds 2 c2).setIfInBounds 3 c3).setIfInBounds 4 c4).setIfInBounds 5 c5).setIfInBounds 6 c6).setIfInBounds 7 c7).setIfInBounds 8 c8).setIfInBounds 9 c9 = #[c0, c1, c2, c3, c4, c5, c6, c7, c8, c9] := by
    simp [zc]
  rw [e] at h1
  exact h1
theorem below_set10 {w wk : World} {B P : Nat} (h : Below B w wk) (hp : B ≤ P) (c0 c1 c2 c3 c4 c5 c6 c7 c8 c9 : Value) : Below B w (set10 wk P c0 c1 c2 c3 c4 c5 c6 c7 c8 c9) :=
  (((((((((h.setCell hp c0).setCell hp c1).setCell hp c2).setCell hp c3).setCell hp c4).setCell hp c5).setCell hp c6).setCell hp c7).setCell hp c8).setCell hp c9
end Go.Proofs.Ytmekmcgdjlmmcaa

