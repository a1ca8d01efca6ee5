/- A part. -/
import Derived.Test.YtccfkhlcnpfkiaaGreatDoorTpl46
set_option linter.unusedVariables false
set_option linter.unusedSimpArgs false
namespace Go.Proofs.YtccfkhlcnpfkiaaGreatDoor
open Go.RowKit Go.Deep
attribute [local go_sem] fr_opt
def lastN (N : List (Int × Int × Int)) (k : Nat) : Int := ((N.take k).getLast?.map (·.2.2)).getD 0
theorem lastN_succ {N : List (Int × Int × Int)} {k : Nat} {x : Int × Int × Int} (h : N[k]? = some x) : lastN N (k + 1) = x.2.2 := by
  unfold lastN
  rw [List.take_add_one, h]
  simp
theorem lastN_all {t : TapeM} {N : List (Int × Int × Int)} (h : TapeN t N) : lastN N N.length = if t.ids.isEmpty then 0 else t.last := by
  unfold lastN
  rw [List.take_length]
  cases hl : N.getLast? with
  | none =>
    obtain rfl : N = [] := by simpa using hl
    rw [if_pos (by rw [h.ids]; rfl)]
    rfl
  | some x =>
    rw [if_neg, h.last x hl]
    · rfl
    · rw [h.ids]
      intro he
      have : N = [] := by simpa using he
      rw [this] at hl
      cases hl
structure NthR (w0 w : World) (tb : Nat) (lo : Nat) (l : List (MsgM × List UInt8)) (ids : List Int) (Ms : ML) (k : Nat) (id : Int) (M : MsgM) (vk : Value) (K : Nat) : Prop where
  find : findR ids (lo : Int) id = (K : Int)
  recd : Ms[K]? = some (M, vk)
  few : M.keys.length ≤ 10000
  note : ∃ b : Int, (notesI lo l)[k]? = some (id, b, M.born)
  read : ∀ W, Chg (fun _ => False) w W → Calls Tryz.prog 19 #[.pointer (some ⟨tb, 0, none⟩), .int .i64 id] W (ReadTo M 0 W)
theorem nthR {w0 w : World} {tb : Nat} {t : TapeM} {g : Gh} {st : St} {m : RowM} {n i0 j : Nat} {l : List (MsgM × List UInt8)} {ids : List Int} {Ms : ML} (h : TapeI w0 w tb t g st m n i0 j l) (hh : His (1024 * i0) (notesI (1024 * i0) l) (recI l) ids Ms) (hal : 1024 * i0 + (bytesI l).length ≤ 10000000) {k : Nat} {id : Int} (hk : t.ids[k]? = some id) :
    ∃ M vk K, NthR w0 w tb (1024 * i0) l ids Ms k id M vk K := by
  rw [h.tn.ids] at hk
  have hkl : k < (notesI (1024 * i0) l).length := by simpa using (List.getElem?_eq_some_iff.1 hk).1
  obtain ⟨K, M, vk, h1, h2, h3⟩ := hh.find h.la' hk
  obtain ⟨q1, M', bs, q2, e1, e2, e3, e4⟩ := notesI_nth hkl
  obtain rfl : M = M' := by rw [h2] at e4; exact Option.some.inj e4
  have hid : id = ((1024 * i0 + (bytesI q1).length : Nat) : Int) := by
    rw [List.getElem?_map, e3] at hk
    exact (Option.some.inj hk).symm
  subst hid
  refine ⟨M, vk, K, h1, h3, ?_, ⟨_, e3⟩, fun W hW => ?_⟩
  · have hla := h.la
    rw [e1] at hla
    exact keys_few ((laidAt_app.1 hla).2.1).1 e2
  · have h' := h.new hW
    rw [e1] at h' hal
    rw [bytesI_app, List.length_append] at hal
    exact h'.read e2 (by omega)
set_option maxHeartbeats 16000000 in
set_option maxRecDepth 100000 in
theorem thas_any {w0 w : World} {tb : Nat} {t : TapeM} {g : Gh} {st : St} {m : RowM} {n0 i0 j : Nat} {l : List (MsgM × List UInt8)} {rb : Nat} {B : ByteArray} {vI vL : Value} {ids : List Int} {Ms : ML} (h : Two w0 w tb t g st m n0 i0 j l rb B ((1024 * i0 : Nat) : Int) vI ids vL Ms)
    (hB : B.size = 1024 * i0 + (bytesI l).length) (hh : His (1024 * i0) (notesI (1024 * i0) l) (recI l) ids Ms) (hst : ∀ p ∈ Ms, Strs w0 0 p.2 p.1.keys) (hids : ids.length ≤ 1000) (hMs : Ms.length ≤ 1000) (hal : 1024 * i0 + (bytesI l).length ≤ 10000000) :
    Calls Tryz.prog 24 #[.pointer (some ⟨tb, 0, none⟩), .pointer (some ⟨rb, 0, none⟩)] w fun e w' => e = .returned (.bool true) ∧ Below w.heap.size w w' := by
  have hla := h.ti.la'
  obtain ⟨T, hT⟩ : ∃ T, T = t.ids := ⟨_, rfl⟩
  have hTn : T = (notesI (1024 * i0) l).map (·.1) := hT.trans h.ti.tn.ids
  have hT0 : ∀ x ∈ T, 0 ≤ x := fun x hx => by
    rw [hTn] at hx
    obtain ⟨y, hy, rfl⟩ := List.mem_map.1 hx
    have := notesI_ge y hy
    omega
  have hTl : T.length ≤ 1000 := by
    obtain ⟨old, oM, nM, q1, q2, q3, q4, q5⟩ := hh
    rw [q1, List.length_append, ← hTn] at hids
    omega
  have hfr0 : fromR ids ((1024 * i0 : Nat) : Int) 0 = T := by rw [hh.from_ hla, ← hTn, lowN_zero hT0, List.drop_zero]
  have hso := le_of_lt' h.ti.sorted
  have HFR : Hid (Calls Tryz.prog 25 #[.pointer (some ⟨rb, 0, none⟩), .int .i64 0] w (FromR w T)) := Lib.hid (by rw [← hfr0]; exact rfrom_any h.rf.ref (by omega) 0)
  have HBG : Hid (∀ W, Chg (fun _ => False) w W → Calls Tryz.prog 50 #[.pointer (some ⟨tb, 0, none⟩)] W fun e w' => e = .returned (.int .i64 ((1024 * i0 : Nat) : Int)) ∧ Below W.heap.size W w') := Lib.hid (fun W hW => (tbegin_any (h.ti.new hW).tg).mono fun e w' ⟨x, y⟩ => ⟨by rw [x, h.ti.rc.row.beg], y ▸ Below.refl _ _⟩)
  have HEN : Hid (∀ W, Chg (fun _ => False) w W → Calls Tryz.prog 16 #[.pointer (some ⟨tb, 0, none⟩)] W fun e w' => e = .returned (.int .i64 (B.size : Int)) ∧ Below W.heap.size W w') := Lib.hid (fun W hW => (tend_any (h.ti.new hW).tg).mono fun e w' ⟨x, y⟩ => ⟨by rw [x, h.ti.rc.row.end_, hB], y ▸ Below.refl _ _⟩)
  have HID : Hid (∀ W, Chg (fun _ => False) w W → Calls Tryz.prog 28 #[.pointer (some ⟨tb, 0, none⟩), .int .i64 0] W (IntsTo W T)) := Lib.hid (fun W hW => by
    have := tids_any (h.ti.new hW).tg.tape hso (by rw [← hT]; omega) 0
    rw [← hT, lowN_zero hT0, List.drop_zero] at this
    exact this)
  have HLS : Hid (∀ W, Chg (fun _ => False) w W → Calls Tryz.prog 58 #[.pointer (some ⟨tb, 0, none⟩)] W fun e w' => e = .returned (.int .i64 (lastN (notesI (1024 * i0) l) T.length)) ∧ Below W.heap.size W w') := Lib.hid (fun W hW => by
    refine (tlast_any (h.ti.new hW).tg.tape hso (by rw [← hT]; omega)).mono ?_
    rintro e w' ⟨x, q, rfl⟩
    refine ⟨?_, below_drewN (Below.refl _ _) q⟩
    rw [x, ← hT, lowN_zero hT0, List.drop_zero, show T.length = (notesI (1024 * i0) l).length from by rw [hTn, List.length_map], lastN_all h.ti.tn, ← hT])
  have HRF : Hid (∀ W, Chg (fun _ => False) w W → RefT W rb B ((1024 * i0 : Nat) : Int) vI ids vL Ms) := Lib.hid (fun W hW => h.rf.new hW)
  have HNTH : Hid (∀ k id, T[k]? = some id → ∃ M vk K, NthR w0 w tb (1024 * i0) l ids Ms k id M vk K) := Lib.hid (fun k id hk => nthR h.ti hh hal (by rw [← hT]; exact hk))
  have HST := Lib.hid hst
  have HTL : Hid (T.length ≤ 1000000) := Lib.hid (by omega)
  have HW0 : Hid (Chg (fun _ => False) w0 w) := Lib.hid h.ti.tg.row.chg
  obtain ⟨lo, hlo⟩ : ∃ lo, lo = 1024 * i0 := ⟨_, rfl⟩
  rw [← hlo] at HBG HLS HRF HNTH hal hB
  have hBz : B.size ≤ 10000000 := by omega
  have hlz : lo ≤ 10000000 := by omega
  obtain ⟨n, hn⟩ : ∃ n, n = T.length := ⟨_, rfl⟩
  have HN := Lib.hid hn
  have hn1 : n ≤ 1000 := by omega
  clear hla hT hTn hT0 hTl hfr0 hso h hh hst hlo hal hB hn
  go_enter Tryz.func24, Tryz.ntmps24
  go_wp2_with fail
  refine HFR.out.mono ?_
  rintro e w1 ⟨v', rfl, ho, hb1⟩
  have hi1 := uints_of_own ho
  obtain ⟨pa, pc, hv'⟩ := ints_form hi1
  rw [← HN.out] at hv'
  subst hv'
  have HIU := Lib.hid hi1
  have HB1 := Lib.hid (below_chg hb1)
  have HCB : Hid (∀ W, Below w1.heap.size w1 W → Chg (fun _ => False) w W) := Lib.hid (fun W hW => HB1.out.trans (below_chg hW) (fun _ _ e => e))
  clear ho hb1 hi1
  go_upto_region 2 with fail
  refine region_inv' (n := 74) rfl rfl (by kernel_rfl) (by kernel_rfl) (fun i v w' => (i = 19 → ∃ a c, v = .slice a n c ∧ Ints w' (.slice a n c) T) ∧ match i with | 0 => v = .pointer (some ⟨tb, 0, none⟩) | 1 => v = .int .i64 (lo : Int) | 2 => v = .pointer (some ⟨rb, 0, none⟩) | 3 => v = .pointer (some ⟨rb, 0, none⟩) | 4 => v = .pointer (some ⟨rb, 1, none⟩) | 5 => v = .int .i64 (lo : Int) | 6 => v = .bool false | 7 => v = .bool false | 8 => v = gv (true) (.pointer (some ⟨tb, 0, none⟩)) | 9 => v = gv (true) (.int .i64 (B.size : Int)) | 10 => v = gv (true) (.pointer (some ⟨rb, 0, none⟩)) | 11 => v = gv (true) (.pointer (some ⟨rb, 0, none⟩)) | 12 => v = gv (true) (.pointer (some ⟨rb, 0, none⟩)) | 13 => v = gv (true) (.string B) | 14 => v = gv (true) (.int .i64 (B.size : Int)) | 15 => v = gv (true) (.bool false) | 16 => v = .bool false | 17 => v = .bool false | 18 => v = gv (true) (.pointer (some ⟨tb, 0, none⟩)) | 20 => v = gv (true) (.slice pa n pc) | 21 => v = gv (true) (.bool true) | 22 => v = gv (true) (.bool false) | 23 => v = .bool false | _ => True)
    (fun w' => Below w1.heap.size w1 w') (fun w' w2 => Below w'.heap.size w' w2) (fun w' => Below.refl _ _) (fun i v wA wB hg h => ⟨fun hi => by obtain ⟨a, c, h1, h2⟩ := h.1 hi; exact ⟨a, c, h1, ints_new h2 (below_chg hg)⟩, h.2⟩) (Below.refl _ _).drew ?_ ?_
  · simp only [AllAt]
    refine ⟨?_, ?_, ?_, ?_, ?_, ?_, ?_, ?_, ?_, ?_, ?_, ?_, ?_, ?_, ?_, ?_, ?_, ?_, ?_, ?_, ?_, ?_, ?_, ?_, trivial⟩
    · refine StepAt.plain rfl ?_
      intro f w' hG hfr hp Kx hK
      have g0 : f 0 = .pointer (some ⟨tb, 0, none⟩) := hfr 0 (by kernel_rfl)
      clear hfr hp
      go_simp
      exact hK _ _ ⟨fun h => absurd h (by decide), rfl⟩ hG (Below.refl _ _)
    · refine StepAt.plain rfl ?_
      intro f w' hG hfr hp Kx hK
      have g14 : f 14 = .pointer (some ⟨tb, 0, none⟩) := (hp 0 _ 14 rfl rfl (by kernel_rfl)).2
      clear hfr hp
      go_simp
      refine (HBG.out _ (HCB.out _ hG)).mono ?_
      rintro e w2 ⟨rfl, hb⟩
      exact hK _ _ ⟨fun h => absurd h (by decide), rfl⟩ (Below.trans hG (Below.mono hb hG.size)) hb
    · refine StepAt.plain rfl ?_
      intro f w' hG hfr hp Kx hK
      have g1 : f 1 = .pointer (some ⟨rb, 0, none⟩) := hfr 1 (by kernel_rfl)
      clear hfr hp
      go_simp
      exact hK _ _ ⟨fun h => absurd h (by decide), rfl⟩ hG (Below.refl _ _)
    · refine StepAt.plain rfl ?_
      intro f w' hG hfr hp Kx hK
      have g16 : f 16 = .pointer (some ⟨rb, 0, none⟩) := (hp 2 _ 16 rfl rfl (by kernel_rfl)).2
      clear hfr hp
      go_simp
      exact hK _ _ ⟨fun h => absurd h (by decide), rfl⟩ hG (Below.refl _ _)
    · refine StepAt.plain rfl ?_
      intro f w' hG hfr hp Kx hK
      have g17 : f 17 = .pointer (some ⟨rb, 0, none⟩) := (hp 3 _ 17 rfl rfl (by kernel_rfl)).2
      clear hfr hp
      go_simp
      exact hK _ _ ⟨fun h => absurd h (by decide), rfl⟩ hG (Below.refl _ _)
    · refine StepAt.plain rfl ?_
      intro f w' hG hfr hp Kx hK
      have g18 : f 18 = .pointer (some ⟨rb, 1, none⟩) := (hp 4 _ 18 rfl rfl (by kernel_rfl)).2
      clear hfr hp
      obtain ⟨c0, c1, c2, c3, cz⟩ := (HRF.out _ (HCB.out _ hG)).ref.cell
      go_simp
      exact hK _ _ ⟨fun h => absurd h (by decide), rfl⟩ hG (Below.refl _ _)
    · refine StepAt.plain rfl ?_
      intro f w' hG hfr hp Kx hK
      have g15 : f 15 = .int .i64 (lo : Int) := (hp 1 _ 15 rfl rfl (by kernel_rfl)).2
      have g19 : f 19 = .int .i64 (lo : Int) := (hp 5 _ 19 rfl rfl (by kernel_rfl)).2
      clear hfr hp
      go_simp
      exact hK _ _ ⟨fun h => absurd h (by decide), rfl⟩ hG (Below.refl _ _)
    · refine StepAt.plain rfl ?_
      intro f w' hG hfr hp Kx hK
      have g20 : f 20 = .bool false := (hp 6 _ 20 rfl rfl (by kernel_rfl)).2
      clear hfr hp
      go_simp
      exact hK _ _ ⟨fun h => absurd h (by decide), rfl⟩ hG (Below.refl _ _)
    · refine StepAt.guarded 7 21 false _ rfl rfl rfl (by decide) (by kernel_rfl) (true) (by intro w v h; (have h : v = .bool false := h.2); rw [h]; (simp [gv, undef])) (by intro h; cases h) ?_
      intro hc f w' hG hfr hp Kx hK
      have g0 : f 0 = .pointer (some ⟨tb, 0, none⟩) := hfr 0 (by kernel_rfl)
      clear hfr hp
      go_simp
      exact hK _ _ ⟨fun h => absurd h (by decide), rfl⟩ hG (Below.refl _ _)
    · refine StepAt.guarded 7 21 false _ rfl rfl rfl (by decide) (by kernel_rfl) (true) (by intro w v h; (have h : v = .bool false := h.2); rw [h]; (simp [gv, undef])) (by intro h; cases h) ?_
      intro hc f w' hG hfr hp Kx hK
      have g22 : f 22 = gv (true) (.pointer (some ⟨tb, 0, none⟩)) := (hp 8 _ 22 rfl rfl (by kernel_rfl)).2
      clear hfr hp
      simp only [gv_true, gv_false, Bool.not_false, Bool.not_true, Bool.and_true, Bool.true_and] at g22
      go_simp
      refine (HEN.out _ (HCB.out _ hG)).mono ?_
      rintro e w2 ⟨rfl, hb⟩
      exact hK _ _ ⟨fun h => absurd h (by decide), rfl⟩ (Below.trans hG (Below.mono hb hG.size)) hb
    · refine StepAt.guarded 7 21 false _ rfl rfl rfl (by decide) (by kernel_rfl) (true) (by intro w v h; (have h : v = .bool false := h.2); rw [h]; (simp [gv, undef])) (by intro h; cases h) ?_
      intro hc f w' hG hfr hp Kx hK
      have g1 : f 1 = .pointer (some ⟨rb, 0, none⟩) := hfr 1 (by kernel_rfl)
      clear hfr hp
      go_simp
      exact hK _ _ ⟨fun h => absurd h (by decide), rfl⟩ hG (Below.refl _ _)
    · refine StepAt.guarded 7 21 false _ rfl rfl rfl (by decide) (by kernel_rfl) (true) (by intro w v h; (have h : v = .bool false := h.2); rw [h]; (simp [gv, undef])) (by intro h; cases h) ?_
      intro hc f w' hG hfr hp Kx hK
      have g24 : f 24 = gv (true) (.pointer (some ⟨rb, 0, none⟩)) := (hp 10 _ 24 rfl rfl (by kernel_rfl)).2
      clear hfr hp
      simp only [gv_true, gv_false, Bool.not_false, Bool.not_true, Bool.and_true, Bool.true_and] at g24
      go_simp
      exact hK _ _ ⟨fun h => absurd h (by decide), rfl⟩ hG (Below.refl _ _)
    · refine StepAt.guarded 7 21 false _ rfl rfl rfl (by decide) (by kernel_rfl) (true) (by intro w v h; (have h : v = .bool false := h.2); rw [h]; (simp [gv, undef])) (by intro h; cases h) ?_
      intro hc f w' hG hfr hp Kx hK
      have g25 : f 25 = gv (true) (.pointer (some ⟨rb, 0, none⟩)) := (hp 11 _ 25 rfl rfl (by kernel_rfl)).2
      clear hfr hp
      simp only [gv_true, gv_false, Bool.not_false, Bool.not_true, Bool.and_true, Bool.true_and] at g25
      go_simp
      exact hK _ _ ⟨fun h => absurd h (by decide), rfl⟩ hG (Below.refl _ _)
    · refine StepAt.guarded 7 21 false _ rfl rfl rfl (by decide) (by kernel_rfl) (true) (by intro w v h; (have h : v = .bool false := h.2); rw [h]; (simp [gv, undef])) (by intro h; cases h) ?_
      intro hc f w' hG hfr hp Kx hK
      have g26 : f 26 = gv (true) (.pointer (some ⟨rb, 0, none⟩)) := (hp 12 _ 26 rfl rfl (by kernel_rfl)).2
      clear hfr hp
      simp only [gv_true, gv_false, Bool.not_false, Bool.not_true, Bool.and_true, Bool.true_and] at g26
      obtain ⟨c0, c1, c2, c3, cz⟩ := (HRF.out _ (HCB.out _ hG)).ref.cell
      go_simp
      exact hK _ _ ⟨fun h => absurd h (by decide), rfl⟩ hG (Below.refl _ _)
    · refine StepAt.guarded 7 21 false _ rfl rfl rfl (by decide) (by kernel_rfl) (true) (by intro w v h; (have h : v = .bool false := h.2); rw [h]; (simp [gv, undef])) (by intro h; cases h) ?_
      intro hc f w' hG hfr hp Kx hK
      have g27 : f 27 = gv (true) (.string B) := (hp 13 _ 27 rfl rfl (by kernel_rfl)).2
      clear hfr hp
      simp only [gv_true, gv_false, Bool.not_false, Bool.not_true, Bool.and_true, Bool.true_and] at g27
      go_simp
      exact hK _ _ ⟨fun h => absurd h (by decide), rfl⟩ hG (Below.refl _ _)
    · refine StepAt.guarded 7 21 false _ rfl rfl rfl (by decide) (by kernel_rfl) (true) (by intro w v h; (have h : v = .bool false := h.2); rw [h]; (simp [gv, undef])) (by intro h; cases h) ?_
      intro hc f w' hG hfr hp Kx hK
      have g23 : f 23 = gv (true) (.int .i64 (B.size : Int)) := (hp 9 _ 23 rfl rfl (by kernel_rfl)).2
      have g28 : f 28 = gv (true) (.int .i64 (B.size : Int)) := (hp 14 _ 28 rfl rfl (by kernel_rfl)).2
      clear hfr hp
      simp only [gv_true, gv_false, Bool.not_false, Bool.not_true, Bool.and_true, Bool.true_and] at g23 g28
      go_simp
      exact hK _ _ ⟨fun h => absurd h (by decide), rfl⟩ hG (Below.refl _ _)
    · refine StepAt.plain rfl ?_
      intro f w' hG hfr hp Kx hK
      have g21 : f 21 = .bool false := (hp 7 _ 21 rfl rfl (by kernel_rfl)).2
      have g29 : f 29 = gv (true) (.bool false) := (hp 15 _ 29 rfl rfl (by kernel_rfl)).2
      clear hfr hp
      simp only [gv_true, gv_false] at g29
      go_simp
      exact hK _ _ ⟨fun h => absurd h (by decide), rfl⟩ hG (Below.refl _ _)
    · refine StepAt.plain rfl ?_
      intro f w' hG hfr hp Kx hK
      have g30 : f 30 = .bool false := (hp 16 _ 30 rfl rfl (by kernel_rfl)).2
      clear hfr hp
      go_simp
      exact hK _ _ ⟨fun h => absurd h (by decide), rfl⟩ hG (Below.refl _ _)
    · refine StepAt.guarded 17 31 false _ rfl rfl rfl (by decide) (by kernel_rfl) (true) (by intro w v h; (have h : v = .bool false := h.2); rw [h]; (simp [gv, undef])) (by intro h; cases h) ?_
      intro hc f w' hG hfr hp Kx hK
      have g0 : f 0 = .pointer (some ⟨tb, 0, none⟩) := hfr 0 (by kernel_rfl)
      clear hfr hp
      go_simp
      exact hK _ _ ⟨fun h => absurd h (by decide), rfl⟩ hG (Below.refl _ _)
    · refine StepAt.guarded 17 31 false _ rfl rfl rfl (by decide) (by kernel_rfl) (true) (by intro w v h; (have h : v = .bool false := h.2); rw [h]; (simp [gv, undef])) (by intro h; cases h) ?_
      intro hc f w' hG hfr hp Kx hK
      have g32 : f 32 = gv (true) (.pointer (some ⟨tb, 0, none⟩)) := (hp 18 _ 32 rfl rfl (by kernel_rfl)).2
      clear hfr hp
      simp only [gv_true, gv_false, Bool.not_false, Bool.not_true, Bool.and_true, Bool.true_and] at g32
      go_simp
      refine (HID.out _ (HCB.out _ hG)).mono ?_
      rintro e w2 ⟨v4, rfl, ho4, hb4⟩
      have hi4 := ints_of_row ho4
      obtain ⟨a4, c4, rfl⟩ := ints_form hi4
      exact hK _ _ ⟨fun _ => ⟨a4, c4, by rw [HN.out], by rw [HN.out]; exact hi4⟩, trivial⟩ (Below.trans hG (Below.mono hb4 hG.size)) hb4
    · refine StepAt.guarded 17 31 false _ rfl rfl rfl (by decide) (by kernel_rfl) (true) (by intro w v h; (have h : v = .bool false := h.2); rw [h]; (simp [gv, undef])) (by intro h; cases h) ?_
      intro hc f w' hG hfr hp Kx hK
      have g5 : f 5 = .slice pa n pc := hfr 5 (by kernel_rfl)
      clear hfr hp
      go_simp
      exact hK _ _ ⟨fun h => absurd h (by decide), rfl⟩ hG (Below.refl _ _)
    · refine StepAt.guarded 17 31 false _ rfl rfl rfl (by decide) (by kernel_rfl) (true) (by intro w v h; (have h : v = .bool false := h.2); rw [h]; (simp [gv, undef])) (by intro h; cases h) ?_
      intro hc f w' hG hfr hp Kx hK
      have g34 : f 34 = gv (true) (.slice pa n pc) := (hp 20 _ 34 rfl rfl (by kernel_rfl)).2
      simp only [gv_true, gv_false, Bool.not_false, Bool.not_true, Bool.and_true, Bool.true_and] at g34
      obtain ⟨a4, c4, g33, hi4⟩ := (hp 19 _ 33 rfl rfl (by kernel_rfl)).1 rfl
      clear hfr hp
      have hin := ints_any _ _ T T _ hi4 (ints_new HIU.out (below_chg hG)) HTL.out
      rw [decide_eq_true rfl] at hin
      clear hi4
      go_simp
      refine hin.mono ?_
      rintro e w2 ⟨rfl, q, rfl⟩
      have hb : Below w'.heap.size w' (w'.drewN q) := below_drewN (Below.refl _ _) q
      exact hK _ _ ⟨fun h => absurd h (by decide), rfl⟩ (Below.trans hG (Below.mono hb hG.size)) hb
    · refine StepAt.guarded 17 31 false _ rfl rfl rfl (by decide) (by kernel_rfl) (true) (by intro w v h; (have h : v = .bool false := h.2); rw [h]; (simp [gv, undef])) (by intro h; cases h) ?_
      intro hc f w' hG hfr hp Kx hK
      have g35 : f 35 = gv (true) (.bool true) := (hp 21 _ 35 rfl rfl (by kernel_rfl)).2
      clear hfr hp
      simp only [gv_true, gv_false, Bool.not_false, Bool.not_true, Bool.and_true, Bool.true_and] at g35
      go_simp
      exact hK _ _ ⟨fun h => absurd h (by decide), rfl⟩ hG (Below.refl _ _)
    · refine StepAt.plain rfl ?_
      intro f w' hG hfr hp Kx hK
      have g31 : f 31 = .bool false := (hp 17 _ 31 rfl rfl (by kernel_rfl)).2
      have g36 : f 36 = gv (true) (.bool false) := (hp 22 _ 36 rfl rfl (by kernel_rfl)).2
      clear hfr hp
      simp only [gv_true, gv_false] at g36
      go_simp
      exact hK _ _ ⟨fun h => absurd h (by decide), rfl⟩ hG (Below.refl _ _)
  · intro fz wz hG hfr hR
    have g37 : fz 37 = .bool false := (hR 23 _ 37 rfl rfl).2
    have HG9 := Lib.hid hG
    clear hR hG
    have hback := fr_back (n := 74) (f := fz) (D := [14, 15, 16, 17, 18, 19, 20, 21, 22, 23, 24, 25, 26, 27, 28, 29, 30, 31, 32, 33, 34, 35, 36, 37]) rfl (by kernel_rfl) hfr
    rw [hback]
    simp only [mixL, List.elem_eq_contains, List.contains_cons, List.contains_nil, Nat.reduceBEq, Nat.reduceAdd, Bool.or_false, Bool.or_true, Bool.false_or, Bool.true_or, cond_false, cond_true, Bool.or_self, Nat.zero_add]
    clear hback hfr
    rw [g37]
    go_wp2_with fail
    go_loopw [6, 40] (fun vl vi wr => ∃ (k : Nat) (lv : Int), k ≤ n ∧ vi = .int .i64 k ∧ vl = .int .i64 lv ∧ Hid (lv = lastN (notesI lo l) k) ∧ Chg (fun _ => False) w1 wr) (fun _ vi _ => n - (intOf vi).toNat)
    case atStart => exact ⟨0, 0, Nat.zero_le _, rfl, rfl, Lib.hid rfl, below_chg HG9.out⟩
    case round =>
      obtain ⟨k, lv, hk, rfl, rfl, HLV, hcr⟩ := hrel
      have HCR := Lib.hid hcr
      have HCW : Hid (Chg (fun _ => False) w wr) := Lib.hid (HB1.out.trans hcr (fun _ _ e => e))
      by_cases hlt : k < n
      · obtain ⟨ib, io, hab, hck⟩ := ints_cell (k := k) (ints_new HIU.out hcr) (by rw [← HN.out]; exact hlt)
        obtain ⟨id, hid⟩ : ∃ x, x = T.getD k 0 := ⟨_, rfl⟩
        rw [← hid] at hck
        have hTk : T[k]? = some id := by rw [hid, List.getD_eq_getElem?_getD, List.getElem?_eq_getElem (by rw [← HN.out]; exact hlt)]; rfl
        obtain ⟨M, vk, K, hN⟩ := HNTH.out k id hTk
        have HNN := Lib.hid hN
        have HRD := Lib.hid (hN.read wr HCW.out)
        clear hcr hid hTk hN
        subst hab
        go_wp2_with fail
        refine HRD.out.mono ?_
        rintro e w7 ⟨vq, rfl, hs7, hcp7, hb7⟩
        obtain ⟨m1, m2, m3, m4, m5, m6, m7, m8, m9, m10⟩ := M
        obtain ⟨ka, kc, hvk⟩ := hs7.form
        dsimp only at hvk hs7
        obtain ⟨kl, hkl⟩ : ∃ l, l = m10.length := ⟨_, rfl⟩
        rw [← hkl] at hvk
        subst hvk
        have hwr := HCW.out
        obtain ⟨W8, hW8⟩ : ∃ W8, W8 = w7.alloc (.cells #[.int .i64 m1, .int .i64 m2, .int .i64 m3, .int .i64 m4, .int .i64 m5, .int .i64 m6, .string m7, .string m8, .string m9, .slice ka kl kc] 38) := ⟨_, rfl⟩
        have hb8 : Below w7.heap.size w7 W8 := hW8 ▸ (Below.refl _ _).alloc (Nat.le_refl _) _
        have hbx : Box W8 w7.heap.size #[.int .i64 m1, .int .i64 m2, .int .i64 m3, .int .i64 m4, .int .i64 m5, .int .i64 m6, .string m7, .string m8, .string m9, .slice ka kl kc] := hW8 ▸ Box.new w7 _
        have hc8 : Chg (fun _ => False) wr W8 := (Chg.of_below hb7 : Chg (fun _ => False) wr w7).trans (Chg.of_below hb8) (fun _ _ x => x)
        have hcw8 : Chg (fun _ => False) w W8 := hwr.trans hc8 (fun _ _ x => x)
        have HC8 := Lib.hid hc8
        have HS8 := Lib.hid ((strs_up hs7 (Nat.zero_le _)).below hb8 (Nat.le_refl _))
        have HBX := Lib.hid hbx
        have HW8 := Lib.hid hW8
        have hKM : K < Ms.length := (List.getElem?_eq_some_iff.1 HNN.out.recd).1
        have hvk := (HST.out _ (List.mem_of_getElem? HNN.out.recd))
        obtain ⟨kb, kd, hvk'⟩ := hvk.form
        dsimp only at hvk'
        rw [← hkl] at hvk'
        subst hvk'
        have HS9 : Hid (Strs w0 0 (.slice kb kl kd) m10) := Lib.hid hvk
        rcases (HRF.out W8 hcw8).row.form with ⟨hv0, hm0⟩ | ⟨gL, lc, hvl, _, _, _⟩
        · rw [hm0] at hKM; cases hKM
        have HRL : Hid (∀ W, Below W8.heap.size W8 W → W.cell? ⟨rb, 3, none⟩ = some vL ∧ ∀ j u, (#[.int .i64 m1, .int .i64 m2, .int .i64 m3, .int .i64 m4, .int .i64 m5, .int .i64 m6, .string m7, .string m8, .string m9, .slice kb kl kd] : Array Value)[j]? = some u → W.cell? ⟨gL, K * 10 + j, none⟩ = some u) := Lib.hid (fun W hW => by
          have hr := HRF.out W (hcw8.trans (below_chg hW) (fun _ _ x => x))
          refine ⟨hr.ref.cell.2.2.2.1, fun j u hu => ?_⟩
          rcases hr.row.form with ⟨hv0, hm0⟩ | ⟨gL', lc', hvl', _, _, hc⟩
          · rw [hm0] at hKM; cases hKM
          · rw [hvl] at hvl'
            have e1 : gL = gL' := by injection hvl' with e1 _ _; injection e1 with e1; injection e1
            subst e1
            exact hc K _ HNN.out.recd j u (by simpa [MsgM.cells] using hu))
        have HFI : Hid (∀ W, Below W8.heap.size W8 W → Calls Tryz.prog 20 #[.pointer (some ⟨rb, 0, none⟩), .int .i64 id] W fun e w' => e = .returned (.int .i64 (K : Int)) ∧ ∃ q, w' = W.drewN q) := Lib.hid (fun W hW => by
          have := rfind_any (HRF.out W (hcw8.trans (below_chg hW) (fun _ _ x => x))).ref (by omega) id
          rw [HNN.out.find] at this
          exact this)
        obtain ⟨Ln, hLn⟩ : ∃ Ln, Ln = Ms.length := ⟨_, rfl⟩
        rw [← hLn] at hvl hKM
        have HVL := Lib.hid hvl
        have hLz : Ln ≤ 1000 := by omega
        clear hs7 hcp7 hb7 hkl hW8 hb8 hbx hc8 hcw8 hvk hvl hLn hck hwr
        unfold MsgM.val MsgM.cells
        dsimp only
        go_upto_region 9 with fail
        rename_i Kc hc
        rw [← HW8.out]
        refine region_ph (n := 74) 12 [9, 10] rfl rfl (by kernel_rfl) (by kernel_rfl) (by kernel_rfl) (fun i u => match i with | 0 => u = .pointer (some ⟨rb, 0, none⟩) | 1 => u = .pointer (some ⟨rb, 0, none⟩) | 2 => u = .pointer (some ⟨rb, 3, none⟩) | 3 => u = vL | 4 => u = .pointer (some ⟨rb, 0, none⟩) | 5 => u = .int .i64 id | 6 => u = .int .i64 (K : Int) | 7 => u = .pointer (some ⟨gL, K * 10, none⟩) | 8 => u = .agg #[.int .i64 m1, .int .i64 m2, .int .i64 m3, .int .i64 m4, .int .i64 m5, .int .i64 m6, .string m7, .string m8, .string m9, .slice kb kl kd] | 9 => u = .pointer (some ⟨W8.heap.size, 0, none⟩) | _ => True)
          (fun p fr w' => match p with | 0 => Below W8.heap.size W8 w' ∧ w'.heap.size = W8.heap.size | 1 => Below W8.heap.size W8 w' ∧ Box w' W8.heap.size zc | _ => Below W8.heap.size W8 w' ∧ Box w' W8.heap.size #[.int .i64 m1, .int .i64 m2, .int .i64 m3, .int .i64 m4, .int .i64 m5, .int .i64 m6, .string m7, .string m8, .string m9, .slice kb kl kd]) ?_ ?_ ?_
        · exact ⟨(Below.refl _ _).drew, rfl⟩
        · simp only [AllAt]
          refine ⟨?_, ?_, ?_, ?_, ?_, ?_, ?_, ?_, ?_, ?_, ?_, trivial⟩
          · refine StepPh.reg rfl (by decide) (fun d hd => by cases hd; decide) ?_
            intro fr w' p hG hup hdn hfr hp Kx hK
            have g1 : fr 1 = .pointer (some ⟨rb, 0, none⟩) := hfr 1 (by kernel_rfl)
            clear hfr hp hup hdn
            go_simp
            exact hK _ _ rfl hG
          · refine StepPh.reg rfl (by decide) (fun d hd => by cases hd; decide) ?_
            intro fr w' p hG hup hdn hfr hp Kx hK
            have g50 : fr 50 = .pointer (some ⟨rb, 0, none⟩) := hp 0 _ 50 rfl rfl (by kernel_rfl)
            clear hfr hp hup hdn
            go_simp
            exact hK _ _ rfl hG
          · refine StepPh.reg rfl (by decide) (fun d hd => by cases hd; decide) ?_
            intro fr w' p hG hup hdn hfr hp Kx hK
            have g51 : fr 51 = .pointer (some ⟨rb, 0, none⟩) := hp 1 _ 51 rfl rfl (by kernel_rfl)
            clear hfr hp hup hdn
            go_simp
            exact hK _ _ rfl hG
          · refine StepPh.reg rfl (by decide) (fun d hd => by cases hd; decide) ?_
            intro fr w' p hG hup hdn hfr hp Kx hK
            have g52 : fr 52 = .pointer (some ⟨rb, 3, none⟩) := hp 2 _ 52 rfl rfl (by kernel_rfl)
            have hpp : p = 0 ∨ p = 1 := by have := hdn 1 (by decide) (.inl (by kernel_rfl)); omega
            clear hfr hp hup hdn
            have hbw : Below W8.heap.size W8 w' := by
              rcases hpp with rfl | rfl
              · exact hG.1
              · exact hG.1
            have hcell := (HRL.out _ hbw).1
            clear hbw hpp
            go_simp
            exact hK _ _ rfl hG
          · refine StepPh.reg rfl (by decide) (fun d hd => by cases hd; decide) ?_
            intro fr w' p hG hup hdn hfr hp Kx hK
            have g1 : fr 1 = .pointer (some ⟨rb, 0, none⟩) := hfr 1 (by kernel_rfl)
            clear hfr hp hup hdn
            go_simp
            exact hK _ _ rfl hG
          · refine StepPh.reg rfl (by decide) (fun d hd => by cases hd; decide) ?_
            intro fr w' p hG hup hdn hfr hp Kx hK
            have g8 : fr 8 = .int .i64 id := hfr 8 (by kernel_rfl)
            clear hfr hp hup hdn
            go_simp
            exact hK _ _ rfl hG
          · refine StepPh.reg rfl (by decide) (fun d hd => by cases hd; decide) ?_
            intro fr w' p hG hup hdn hfr hp Kx hK
            have g54 : fr 54 = .pointer (some ⟨rb, 0, none⟩) := hp 4 _ 54 rfl rfl (by kernel_rfl)
            have g55 : fr 55 = .int .i64 id := hp 5 _ 55 rfl rfl (by kernel_rfl)
            have hpp : p = 0 ∨ p = 1 := by have := hdn 1 (by decide) (.inl (by kernel_rfl)); omega
            clear hfr hp hup hdn
            have hbw : Below W8.heap.size W8 w' := by
              rcases hpp with rfl | rfl
              · exact hG.1
              · exact hG.1
            have hF := HFI.out _ hbw
            clear hbw
            go_simp
            refine hF.mono ?_
            rintro e w2 ⟨rfl, q, rfl⟩
            refine hK _ _ rfl ?_
            rcases hpp with rfl | rfl
            · exact ⟨below_drewN hG.1 q, hG.2⟩
            · exact ⟨below_drewN hG.1 q, hG.2⟩
          · refine StepPh.reg rfl (by decide) (fun d hd => by cases hd; decide) ?_
            intro fr w' p hG hup hdn hfr hp Kx hK
            have g53 : fr 53 = vL := hp 3 _ 53 rfl rfl (by kernel_rfl)
            have g56 : fr 56 = .int .i64 (K : Int) := hp 6 _ 56 rfl rfl (by kernel_rfl)
            clear hfr hp hup hdn
            rw [HVL.out] at g53
            have hki : (K : Int) < (Ln : Int) := by omega
            go_simp
            exact hK _ _ rfl hG
          · refine StepPh.reg rfl (by decide) (fun d hd => by cases hd; decide) ?_
            intro fr w' p hG hup hdn hfr hp Kx hK
            have g57 : fr 57 = .pointer (some ⟨gL, K * 10, none⟩) := hp 7 _ 57 rfl rfl (by kernel_rfl)
            have hpp : p = 0 ∨ p = 1 := by have := hdn 1 (by decide) (.inl (by kernel_rfl)); omega
            clear hfr hp hup hdn
            have hbw : Below W8.heap.size W8 w' := by
              rcases hpp with rfl | rfl
              · exact hG.1
              · exact hG.1
            have hrow := (HRL.out _ hbw).2
            have f0 : w'.cell? ⟨gL, K * 10, none⟩ = some (.int .i64 m1) := hrow 0 _ rfl
            have f1 : w'.cell? ⟨gL, K * 10 + 1, none⟩ = some (.int .i64 m2) := hrow 1 _ rfl
            have f2 : w'.cell? ⟨gL, K * 10 + 1 + 1, none⟩ = some (.int .i64 m3) := hrow 2 _ rfl
            have f3 : w'.cell? ⟨gL, K * 10 + 1 + 1 + 1, none⟩ = some (.int .i64 m4) := hrow 3 _ rfl
            have f4 : w'.cell? ⟨gL, K * 10 + 1 + 1 + 1 + 1, none⟩ = some (.int .i64 m5) := hrow 4 _ rfl
            have f5 : w'.cell? ⟨gL, K * 10 + 1 + 1 + 1 + 1 + 1, none⟩ = some (.int .i64 m6) := hrow 5 _ rfl
            have f6 : w'.cell? ⟨gL, K * 10 + 1 + 1 + 1 + 1 + 1 + 1, none⟩ = some (.string m7) := hrow 6 _ rfl
            have f7 : w'.cell? ⟨gL, K * 10 + 1 + 1 + 1 + 1 + 1 + 1 + 1, none⟩ = some (.string m8) := hrow 7 _ rfl
            have f8 : w'.cell? ⟨gL, K * 10 + 1 + 1 + 1 + 1 + 1 + 1 + 1 + 1, none⟩ = some (.string m9) := hrow 8 _ rfl
            have f9 : w'.cell? ⟨gL, K * 10 + 1 + 1 + 1 + 1 + 1 + 1 + 1 + 1 + 1, none⟩ = some (.slice kb kl kd) := hrow 9 _ rfl
            clear hbw hpp hrow
            go_simp
            exact hK _ _ rfl hG
          · refine StepPh.wr 0 rfl (by decide) rfl (fun d hd => by cases hd; decide) (fun j hj => by omega) ?_
            intro fr w' hG hfr hp Kx hK
            clear hfr hp
            obtain ⟨hG1, hG2⟩ : Below W8.heap.size W8 w' ∧ w'.heap.size = W8.heap.size := hG
            go_simp
            exact hK _ _ (fun _ => rfl) ⟨hG1.alloc (by omega) _, hG2 ▸ Box.new w' _⟩
          · refine StepPh.wr 1 rfl (by decide) rfl (fun d hd => by cases hd) (fun j hj => by (obtain rfl : j = 0 := (by omega)); kernel_rfl) ?_
            intro fr w' hG hfr hp Kx hK
            have g58 : fr 58 = .agg #[.int .i64 m1, .int .i64 m2, .int .i64 m3, .int .i64 m4, .int .i64 m5, .int .i64 m6, .string m7, .string m8, .string m9, .slice kb kl kd] := hp 8 _ 58 rfl rfl (by kernel_rfl)
            have g11 : fr 11 = .pointer (some ⟨W8.heap.size, 0, none⟩) := hp 9 _ 11 rfl rfl (by kernel_rfl)
            clear hfr hp
            obtain ⟨hG1, hG2⟩ : Below W8.heap.size W8 w' ∧ Box w' W8.heap.size zc := hG
            have hcz := hG2.cell
            have hfz := hG2.free
            unfold zc at hcz
            go_simp
            have hs := fun (W : World) (cs : Array Value) (i : Nat) (v : Value) (h : Below W8.heap.size W8 W ∧ Box W W8.heap.size cs) => (show Below W8.heap.size W8 (W.setCell ⟨W8.heap.size, i, none⟩ v) ∧ Box (W.setCell ⟨W8.heap.size, i, none⟩ v) W8.heap.size (cs.setIfInBounds i v) from ⟨h.1.setCell (Nat.le_refl _) v, h.2.set i v⟩)
            have hz := hs _ _ 9 (.slice kb kl kd) (hs _ _ 8 (.string m9) (hs _ _ 7 (.string m8) (hs _ _ 6 (.string m7) (hs _ _ 5 (.int .i64 m6) (hs _ _ 4 (.int .i64 m5) (hs _ _ 3 (.int .i64 m4) (hs _ _ 2 (.int .i64 m3) (hs _ _ 1 (.int .i64 m2) (hs _ _ 0 (.int .i64 m1) ⟨hG1, hG2⟩)))))))))
            obtain ⟨hz1, hz2⟩ := hz
            simp only [zc, List.setIfInBounds_toArray, List.set_cons_zero, List.set_cons_succ] at hz2
            exact hK undef _ (fun h => by cases h) ⟨hz1, hz2⟩
        · intro fr w9 hG hfr hR
          refine hc _ _ ?_
          clear hc
          have g11 : fr 11 = .pointer (some ⟨W8.heap.size, 0, none⟩) := hR 9 _ 11 rfl rfl
          clear hR
          obtain ⟨hG1, hG2⟩ : Below W8.heap.size W8 w9 ∧ Box w9 W8.heap.size #[.int .i64 m1, .int .i64 m2, .int .i64 m3, .int .i64 m4, .int .i64 m5, .int .i64 m6, .string m7, .string m8, .string m9, .slice kb kl kd] := hG
          have hback := fr_back (n := 74) (f := fr) (D := [50, 51, 52, 53, 54, 55, 56, 57, 58, 11]) rfl (by kernel_rfl) hfr
          rw [hback]
          simp only [mixL, List.elem_eq_contains, List.contains_cons, List.contains_nil, Nat.reduceBEq, Nat.reduceAdd, Bool.or_false, Bool.or_true, Bool.false_or, Bool.true_or, cond_false, cond_true, Bool.or_self, Nat.zero_add]
          clear hback hfr
          rw [g11]
          have hbx9 : Box w9 w7.heap.size #[.int .i64 m1, .int .i64 m2, .int .i64 m3, .int .i64 m4, .int .i64 m5, .int .i64 m6, .string m7, .string m8, .string m9, .slice ka kl kc] := HBX.out.below hG1 HBX.out.lt
          have hx9 := hbx9.cell
          have hy9 := hG2.cell
          have hcr9 : Chg (fun _ => False) wr w9 := HC8.out.trans (below_chg hG1) (fun _ _ x => x)
          have hsm := rsame_any (⟨m1, m2, m3, m4, m5, m6, m7, m8, m9, m10⟩ : MsgM) (⟨m1, m2, m3, m4, m5, m6, m7, m8, m9, m10⟩ : MsgM) (.slice ka kl kc) (.slice kb kl kd) true w9 (HS8.out.below hG1 (Nat.le_refl _)) (HS9.out.below (chg_below ((HW0.out.trans HCW.out (fun _ _ x => x)).trans hcr9 (fun _ _ x => x))) (Nat.le_refl _)) HNN.out.few HNN.out.few (sameB_iff.2 rfl)
          unfold RSameTo MsgM.val MsgM.cells at hsm
          dsimp only at hsm
          have HSM := Lib.hid hsm
          have HCR9 := Lib.hid hcr9
          have HBY := Lib.hid hG2
          clear hsm hG1 hG2 hbx9 hcr9
          go_wp2_with fail
          refine HSM.out.mono ?_
          rintro e wz2 ⟨rfl, hbz⟩
          have hyz := (HBY.out.below hbz HBY.out.lt).cell
          have HCZ := Lib.hid ((HCR.out.trans HCR9.out (fun _ _ x => x)).trans (below_chg hbz) (fun _ _ x => x))
          clear hbz hx9 hy9
          obtain ⟨bq, hnote⟩ := HNN.out.note
          have HLN := Lib.hid (lastN_succ hnote).symm
          clear hnote
          go_wp2_with fail
          exact ⟨⟨k + 1, m6, by omega, by go_num, rfl, HLN.out, HCZ.out⟩, by simp [intOf]; omega⟩
      · obtain rfl : k = n := by omega
        have HL2 := Lib.hid (HLS.out wr HCW.out)
        have hlv : lv = lastN (notesI lo l) T.length := by rw [HLV.out, HN.out]
        rw [← hlv] at HL2
        clear hlv hcr
        go_wp2_with fail
        refine HL2.out.mono ?_
        rintro e w3 ⟨rfl, hb3⟩
        have HB3 := Lib.hid ((chg_below HCW.out).trans (hb3.mono HCW.out.size))
        clear hb3
        go_wp2_with fail
        go_ret
        exact ⟨by simp, HB3.out⟩
end Go.Proofs.YtccfkhlcnpfkiaaGreatDoor
