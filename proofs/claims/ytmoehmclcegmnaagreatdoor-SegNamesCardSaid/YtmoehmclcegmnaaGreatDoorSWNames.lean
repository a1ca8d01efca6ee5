/-
  The walk of SegNames.
-/
import Derived.Test.YtmoehmclcegmnaaGreatDoorSAwake
import Derived.Test.YtmoehmclcegmnaaGreatDoorSLaid
namespace Go.Proofs.YtmoehmclcegmnaaGreatDoor
open Go.RowKit Go.Deep
attribute [local go_sem] fr_opt

theorem place_name (head : ByteArray) (u : Nat) (hu : u ≤ 99999999) : placeB head (nameB head u) = some u := by
  have h1 : Lib.hasPrefix (nameB head u).data.toList head.data.toList = true := by
    rw [nameB_toList]
    simp [Lib.hasPrefix]
  have h2 : Lib.trimPrefix (nameB head u).data.toList head.data.toList = dec8 u := by
    unfold Lib.trimPrefix
    rw [if_pos h1, nameB_toList]
    simp
  unfold placeB
  rw [if_pos h1, h2]
  simp only
  rw [if_pos ⟨dec8_length u, fun b hb => dec8_dig u b hb⟩, val8_dec8 u (by omega)]
theorem name_place {head s : ByteArray} {v : Nat} (h : placeB head s = some v) : nameB head v = s ∧ v ≤ 99999999 := by
  unfold placeB at h
  split at h
  · rename_i hp
    simp only at h
    split at h
    · rename_i hd
      have hv := dec8_val8 hd.1 (fun b hb => hd.2 b hb)
      obtain rfl := Option.some.inj h
      refine ⟨?_, by omega⟩
      apply ByteArray.ext
      apply Array.toList_inj.1
      rw [nameB_toList, hv.1]
      unfold Lib.trimPrefix
      rw [if_pos hp]
      unfold Lib.hasPrefix at hp
      have := List.isPrefixOf_iff_prefix.1 hp
      exact List.prefix_iff_eq_append.1 this
    · cases h
  · cases h

/-- The last steps: calls of a row that isn't there. -/
theorem below_chg {w w1 w2 : World} (h : Chg (fun _ => False) w w1) (hb : Below w1.heap.size w1 w2) : Chg (fun _ => False) w w2 := h.trans (Chg.of_below hb) (fun _ _ x => x)
set_option maxHeartbeats 4000000 in
set_option maxRecDepth 100000 in
theorem walk_SegNames (head : ByteArray) (p : Int) (s : ByteArray) (w : World) (ht : Tab10 w) (hh : head.size ≤ maxLen) (hs : s.size ≤ maxLen) :
    Calls Tryz.prog 5 #[.string head, .int .i64 p, .string s] w fun e w' => e = .returned (.bool true) ∧ Chg (fun _ => False) w w' := by
  unfold maxLen at hh hs
  have HTB := Lib.hid ht
  clear ht
  go_enter Tryz.func5, Tryz.ntmps5
  go_wp2_with (go_at_call 8; refine (awake_any _ HTB.out).mono ?_)
  rintro e w1 ⟨rfl, hc1⟩
  have HC1 := Lib.hid hc1
  clear hc1
  by_cases h1 : 100 < head.size
  · go_wp2_with fail
    go_ret
    exact ⟨rfl, HC1.out⟩
  by_cases h2 : 100 < s.size
  · go_wp2_with fail
    go_ret
    exact ⟨rfl, HC1.out⟩
  have HT1 : Hid (Tab10 w1) := tab_chg HTB.out HC1.out
  by_cases hin : 0 ≤ p ∧ p ≤ 99999999
  case' pos =>
    obtain ⟨hp0, hp1⟩ := hin
    obtain ⟨u, hu⟩ : ∃ u : Nat, (u : Int) = p := ⟨p.toNat, by omega⟩
    have hN := name_ok head u (by omega) (by omega) w1 HT1.out
    have hpl := place_name head u (by omega)
    have hsz := nameB_size head u
    rw [hu] at hN
    obtain ⟨nm, hnm⟩ : ∃ nm, nm = nameB head u := ⟨_, rfl⟩
    rw [← hnm] at hN hpl hsz
    have hP : ∀ W, Calls Tryz.prog 27 #[.string head, .string nm] W fun e w' => e = .returned (.tuple #[.int .i64 p, .bool true]) ∧ Below W.heap.size W w' := fun W => by
      have := place_any head nm W (by omega)
      unfold PlaceTo at this
      rw [hpl] at this
      simp only [Option.getD_some, Option.isSome_some, hu] at this
      exact this
    have HN := Lib.hid hN
    have HP := Lib.hid hP
    have hsz1 : (nm.size : Int) = (head.size : Int) + 8 := by omega
    have hw8 : IntKind.i64.wrap ((head.size : Int) + 8) = (head.size : Int) + 8 := IntWalk.i64_in _ (by omega)
    clear hN hP hpl hu hnm hsz
    go_wp2_with fail
    refine HN.out.mono ?_
    rintro e w2 ⟨rfl, hb2⟩
    have HB2 := Lib.hid hb2
    clear hb2
    go_wp2_with fail
    refine (HP.out _).mono ?_
    rintro e w3 ⟨rfl, hb3⟩
    have hcq := below_chg (below_chg HC1.out HB2.out) hb3
    have HCQ := Lib.hid hcq
    generalize w3 = wq at HCQ ⊢
    clear hcq hb3 HB2 HN HP
    go_wp2_with fail
  case' neg =>
    have hN := name_bad head p w1 (by omega)
    have HN := Lib.hid hN
    clear hN
    go_wp2_with fail
    refine HN.out.mono ?_
    rintro e w2 ⟨rfl, rfl⟩
    have HCQ := HC1
    generalize w1 = wq at HCQ ⊢
    by_cases h0 : 0 ≤ p
    case' pos =>
      have h9 : ¬ p ≤ 99999999 := fun h => hin ⟨h0, h⟩
      have h9' : 99999999 < p := by omega
      clear HN hin
      go_wp2_with fail
    case' neg =>
      have h9' : p < 0 := by omega
      clear HN hin
      go_wp2_with fail
  all_goals
    have hTq : Hid (Tab10 wq) := tab_chg HTB.out HCQ.out
    have hPl := place_any head s wq (by omega)
    unfold PlaceTo at hPl
    cases hpl : placeB head s
    case' none =>
      rw [hpl] at hPl
      simp only [Option.getD_none, Option.isSome_none] at hPl
      have HPL := Lib.hid hPl
      clear hPl hpl
      refine HPL.out.mono ?_
      rintro e w4 ⟨rfl, hb4⟩
      have HCR := Lib.hid (below_chg HCQ.out hb4)
      generalize w4 = wz at HCR ⊢
      clear hb4 HPL
      go_wp2_with fail
    case' some v =>
      rw [hpl] at hPl
      simp only [Option.getD_some, Option.isSome_some] at hPl
      obtain ⟨hv1, hv2⟩ := name_place hpl
      have HPL := Lib.hid hPl
      have HV := Lib.hid hv1
      clear hPl hpl hv1
      refine HPL.out.mono ?_
      rintro e w4 ⟨rfl, hb4⟩
      have hc4 := below_chg HCQ.out hb4
      have hN := name_ok head v (by omega) (by omega) w4 (tab_chg HTB.out hc4)
      rw [HV.out] at hN
      have HN := Lib.hid hN
      have HC4 := Lib.hid hc4
      clear hb4 hN hc4 HPL
      go_wp2_with fail
      refine HN.out.mono ?_
      rintro e w5 ⟨rfl, hb5⟩
      have HCR := Lib.hid (below_chg HC4.out hb5)
      generalize w5 = wz at HCR ⊢
      clear hb5 HN HC4
      go_wp2_with fail
    all_goals
      refine (append_nil _ (by decide) _).mono ?_
      rintro e wa ⟨rfl, rfl⟩
      go_wp2_with fail
      refine (read_nil _ _ _).mono ?_
      rintro e wb ⟨rfl, rfl⟩
      go_wp2_with fail
      refine (drop_nil _).mono ?_
      rintro e wc ⟨rfl, rfl⟩
      go_wp2_with fail
      refine (open_nil _ _ _).mono ?_
      rintro e wd ⟨rfl, rfl⟩
      go_wp2_with fail
      refine (sync_nil _).mono ?_
      rintro e we ⟨rfl, rfl⟩
      go_wp2_with fail
      refine (cut_nil _ _).mono ?_
      rintro e wf ⟨rfl, rfl⟩
      go_wp2_with fail
      refine (begin_nil _).mono ?_
      rintro e wg ⟨rfl, rfl⟩
      go_wp2_with fail
      refine (end_nil _).mono ?_
      rintro e wh ⟨rfl, rfl⟩
      go_wp2_with fail
      refine (synced_nil _).mono ?_
      rintro e wi ⟨rfl, rfl⟩
      go_wp2_with fail
      refine (room_nil _).mono ?_
      rintro e wj ⟨rfl, rfl⟩
      go_wp2_with fail
      refine (left_nil _ _).mono ?_
      rintro e wk ⟨rfl, rfl⟩
      go_wp2_with fail
      go_ret
      exact ⟨rfl, HCR.out⟩
theorem walkF_SegNames (head : ByteArray) (p : Int) (s : ByteArray) (w : World) (ht : Tab10 w) (hh : head.size ≤ maxLen) (hp : (Lit.int .i64 p).wf = true) (hs : s.size ≤ maxLen) :
    Calls Tryz.prog 5 #[.string head, .int .i64 p, .string s] w fun e w' => e = .returned (.bool true) ∧ Below w.heap.size w w' :=
  (walk_SegNames head p s w ht hh hs).mono fun e w' hh => ⟨hh.1, hh.2.below (fun _ _ e => e.elim) (Nat.le_refl _)⟩
end Go.Proofs.YtmoehmclcegmnaaGreatDoor
