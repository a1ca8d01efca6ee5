/- A part. -/
import Derived.Test.YtkbgococmkcjaaaWla15
import Derived.Test.YtkbgococmkcjaaaWla18
set_option linter.unusedVariables false
set_option linter.unusedSimpArgs false
namespace Go.Proofs.Ytkbgococmkcjaaa
open Go.RowKit Go.Deep
attribute [local go_sem] fr_opt
def wZero : List Nat := List.replicate 16 0
def WNewOk (w0 w : World) (g : Gh) (st : St) (n : Nat) (hand : Int) (e : Ending) (w' : World) : Prop :=
  ∃ wb g', e = .returned (.tuple #[.pointer (some ⟨wb, 0, none⟩), .int .i64 0]) ∧ w.heap.size ≤ wb ∧ WhI w0 w' wb g' (wBegS st (wNames wH st)) (n + 2) hand wZero ∧ Gh.To w g g' w'
theorem wnew_ease {w0 w : World} {g : Gh} {st : St} {n : Nat} {hand : Int} (hd : DiskAt w g st) (hc : Chg (fun _ => False) w0 w) (hlow : ∀ k ∈ g.fp, w0.heap.size ≤ k) (h : Ease n st) (hn : n ≤ 900000) (hr : 96 ≤ (st.cap : Int) - st.size) (hm : ∀ p ∈ st.fs, p.1.size ≤ maxLen) (h0 : 0 ≤ hand) (h1 : hand ≤ 1099511627776) :
    Calls Try.prog 10 #[.pointer (some ⟨g.d, 0, none⟩), .int .i64 hand] w (WNewOk w0 w g st n hand) := by
  refine (wnew_any g st n hand w hd h.good hn hm h0 h1).mono ?_
  rintro e w' ⟨g', hd', ht, _, hok⟩
  obtain ⟨m1, m2, m3⟩ := wmade h hr
  obtain ⟨wb, he, hw, hout, hcell⟩ := hok m1
  have hz := hc.size
  refine ⟨wb, g', he, hw, ⟨hd', hc.trans ht.chg (fun i hi hx => by have := hlow i hx; omega), fun k hk => ?_, m2, by rw [ht.d]; exact hcell, by omega, hout, m3.find, rfl, fun x hx => ?_⟩, ht⟩
  · rcases ht.fp k hk with a | a
    · exact hlow k a
    · omega
  · rw [List.eq_of_mem_replicate hx]; decide
theorem wnew_first {w0 w w' : World} (hc : Chg (fun _ => False) w0 w) (hand : Int) (hd : DiskAt w' ⟨w.heap.size, none, []⟩ (newSt 1000)) (hb : Below w.heap.size w w') (h0 : 0 ≤ hand) (h1 : hand ≤ 1099511627776) :
    Calls Try.prog 10 #[.pointer (some ⟨w.heap.size, 0, none⟩), .int .i64 hand] w' (WNewOk w0 w' ⟨w.heap.size, none, []⟩ (newSt 1000) 0 hand) :=
  wnew_ease (g := ⟨w.heap.size, none, []⟩) hd (hc.trans (Chg.of_below hb : Chg (fun _ => False) w w') (fun _ _ x => x)) (fun q hq => by simp [Gh.fp] at hq; rw [hq]; exact hc.size) (Ease.new 1000) (by decide) (by decide) (fun p hp => by cases hp) h0 h1
set_option maxHeartbeats 2000000 in
set_option maxRecDepth 100000 in
theorem wawake_any (w : World) : Calls Try.prog 7 #[] w fun e w' => e = .returned (.bool true) ∧ Below w.heap.size w w' := by
  have HN := Lib.hid (new_any 1000 w)
  go_enter Try.func7, Try.ntmps7
  go_wp2_with fail
  refine HN.out.mono ?_
  rintro e w1 ⟨rfl, hd1, hb1⟩
  have HQ := Lib.hid (wnew_first (Chg.refl _ w) 5 hd1 hb1 (by decide) (by decide))
  clear hd1 hb1
  go_wp2_with fail
  refine HQ.out.mono ?_
  rintro e w2 ⟨wb, g, rfl, _, h2, _⟩
  have HA := Lib.hid (turn_on h2 7 (by decide) (by decide) (by decide))
  clear h2
  go_wp2_with fail
  refine HA.out.mono ?_
  rintro e w3 ⟨rfl, h3, _⟩
  have HB := Lib.hid (turn_on h3 7 (by decide) (by decide) (by decide))
  clear h3
  go_wp2_with fail
  refine HB.out.mono ?_
  rintro e w4 ⟨rfl, h4, _⟩
  have HC := Lib.hid (turn_off h4 7 (by decide))
  have HD := Lib.hid (hand_any h4)
  have HE := Lib.hid h4.below
  clear h4
  go_wp2_with fail
  refine HC.out.mono ?_
  rintro e w5 ⟨rfl, rfl⟩
  go_wp2_with fail
  refine HD.out.mono ?_
  rintro e w5 ⟨rfl, rfl⟩
  go_wp2_with fail
  go_ret
  exact ⟨rfl, HE.out⟩
end Go.Proofs.Ytkbgococmkcjaaa
namespace Go.Proofs.Ytkbgococmkcjaaa
open Go.RowKit Go.Deep
attribute [local go_sem] fr_opt
theorem wints_form {k : IntKind} {w : World} {v : Value} {zs : List Int} (h : IntsOf k w v zs) : ∃ a cap, v = .slice a zs.length cap := by
  obtain ⟨a, cap, e, _⟩ := h
  exact ⟨a, cap, e⟩
theorem wints_cell {k : IntKind} {w : World} {a : Option Addr} {n cap i : Nat} {zs : List Int} (h : IntsOf k w (.slice a n cap) zs) (hk : i < zs.length) : ∃ b o, a = some ⟨b, o, none⟩ ∧ w.cell? ⟨b, o + i, none⟩ = some (.int k (zs.getD i 0)) := by
  obtain ⟨a', cap', e, h⟩ := h
  cases e
  rcases h with h | ⟨b, o, e, h⟩
  · rw [h] at hk; simp at hk
  · exact ⟨b, o, e, h i hk⟩
end Go.Proofs.Ytkbgococmkcjaaa
namespace Go.Proofs.Ytkbgococmkcjaaa
open Go.RowKit Go.Deep
attribute [local go_sem] fr_opt
theorem wwfu16 {n : Int} (h : (Lit.int .u16 n).wf = true) : 0 ≤ n ∧ n ≤ 65535 := by
  have h2 : IntKind.u16.min ≤ n ∧ n ≤ IntKind.u16.max := by simpa [Lit.wf] using h
  have h3 : IntKind.u16.max = 65535 := rfl
  have h4 : IntKind.u16.min = 0 := rfl
  omega
theorem wwfu8 {n : Int} (h : (Lit.int .u8 n).wf = true) : 0 ≤ n ∧ n ≤ 255 := by
  have h2 : IntKind.u8.min ≤ n ∧ n ≤ IntKind.u8.max := by simpa [Lit.wf] using h
  have h3 : IntKind.u8.max = 255 := rfl
  have h4 : IntKind.u8.min = 0 := rfl
  omega
set_option maxHeartbeats 4000000 in
set_option maxRecDepth 100000 in
theorem walk_WheelLaps (hand : Int) (v : Value) (zs : List Int) (w : World) (hh : (Lit.int .u16 hand).wf = true) (hv : IntsOf .u8 w v zs) (hf : ∀ n ∈ zs, (Lit.int .u8 n).wf = true) :
    Calls Try.prog 5 #[.int .u16 hand, v] w fun e w' => e = .returned (.bool true) ∧ Below w.heap.size w w' := by
  obtain ⟨a, cap, rfl⟩ := wints_form hv
  have hh2 := wwfu16 hh
  have HAW := Lib.hid (wawake_any w)
  have hcl : ∀ W, Below w.heap.size w W → ∀ k, k < zs.length → ∃ b o, a = some ⟨b, o, none⟩ ∧ W.cell? ⟨b, o + k, none⟩ = some (.int .u8 (zs.getD k 0)) := fun W hb k hk => wints_cell (hv.below hb (Nat.le_refl _)) hk
  have hwf : ∀ k, k < zs.length → 0 ≤ zs.getD k 0 ∧ zs.getD k 0 ≤ 255 := fun k hk => by
    rw [List.getD_eq_getElem?_getD, List.getElem?_eq_getElem hk]
    exact wwfu8 (hf _ (List.getElem_mem hk))
  obtain ⟨N, hN⟩ : ∃ N, N = zs.length := ⟨_, rfl⟩
  have HCL := Lib.hid hcl
  have HWF := Lib.hid hwf
  have HN := Lib.hid hN
  rw [← hN]
  clear hcl hwf hN hv hf hh
  by_cases h200 : 60 < N
  · have h200' : (60 : Int) < (N : Int) := by omega
    clear h200
    go_enter Try.func5, Try.ntmps5
    go_wp2_with fail
    refine HAW.out.mono ?_
    rintro e w1 ⟨rfl, hb1⟩
    have HB1 := Lib.hid hb1
    clear hb1
    go_wp2_with fail
    go_ret
    exact ⟨rfl, HB1.out⟩
  · have h200' : ¬ (60 : Int) < (N : Int) := by omega
    have hN200 : N ≤ 60 := by omega
    obtain ⟨h0, h1⟩ := hh2
    clear h200
    have H0 := Lib.hid h0
    have H1 := Lib.hid h1
    go_enter Try.func5, Try.ntmps5
    go_wp2_with fail
    refine HAW.out.mono ?_
    rintro e w1 ⟨rfl, hb1⟩
    have HB1 := Lib.hid hb1
    clear hb1
    go_wp2_with fail
    refine (new_any 1000 w1).mono ?_
    rintro e w2 ⟨rfl, hd2, hb2⟩
    have HQ := Lib.hid (wnew_first (w0 := w) (Chg.of_below HB1.out) hand hd2 hb2 H0.out (by have := H1.out; omega))
    clear hd2 hb2
    go_wp2_with fail
    refine HQ.out.mono ?_
    rintro e w3 ⟨wb, g, rfl, _, h3, _⟩
    have HI3 := Lib.hid h3
    clear h3
    obtain ⟨st, hst⟩ : ∃ st, st = wBegS (newSt 1000) (wNames wH (newSt 1000)) := ⟨_, rfl⟩
    rw [← hst] at HI3
    clear hst
    go_wp2_with fail
    go_loopw [7, 8, 34] (fun x y i wr => ∃ (k : Nat) (hd : Int), k ≤ N ∧ x = .int .i64 hd ∧ y = .int .i64 (hd + 1) ∧ i = .int .i64 (k : Int) ∧ 0 ≤ hd ∧ hd ≤ 65535 + 200 * k ∧ Hid (WhI w wr wb g st 2 hd wZero)) (fun _ _ i _ => N - (intOf i).toNat)
    case atStart => exact ⟨0, hand, Nat.zero_le _, rfl, by first | rfl | go_num, rfl, H0.out, by have := H1.out; omega, HI3⟩
    case round =>
      obtain ⟨k, hd, hk, rfl, rfl, rfl, hd0, hd1, HI⟩ := hrel
      by_cases hlt : k < N
      · have hlt' : (k : Int) < (N : Int) := by omega
        obtain ⟨b, o, rfl, hck⟩ := HCL.out wr HI.out.below k (by rw [← HN.out]; exact hlt)
        have hx2 := HWF.out k (by rw [← HN.out]; exact hlt)
        obtain ⟨x, hx⟩ : ∃ x, x = zs.getD k 0 := ⟨_, rfl⟩
        rw [← hx] at hck hx2
        obtain ⟨d, hdm, dx0, dx1⟩ : ∃ d, x.tmod 200 = d ∧ 0 ≤ d ∧ d ≤ 199 := ⟨_, rfl, by rw [Int.tmod_eq_emod_of_nonneg hx2.1]; omega, by rw [Int.tmod_eq_emod_of_nonneg hx2.1]; omega⟩
        clear hx hlt
        go_wp2_with fail
        go_loopw [8] (fun y wq => ∃ (t : Int), y = .int .i64 (t + 1) ∧ hd ≤ t ∧ t ≤ hd + d ∧ Hid (WhI w wq wb g st 2 t wZero)) (fun y _ => (hd + d + 1 - intOf y).toNat)
        case atStart => exact ⟨hd, rfl, by omega, by omega, HI⟩
        case round =>
          obtain ⟨t, rfl, ht0, ht1, HT⟩ := hrel
          by_cases hlt2 : t < hd + d
          · have HTN := Lib.hid (turn_on HT.out (hd + d) hlt2 (by omega) (by omega))
            clear HT
            go_wp2_with fail
            refine HTN.out.mono ?_
            rintro e w5 ⟨rfl, h5, _⟩
            have H5 := Lib.hid h5
            clear h5
            go_wp2_with fail
            exact ⟨⟨t + 1, by first | rfl | go_num, by omega, by omega, H5⟩, by simp [intOf]; omega⟩
          · obtain rfl : t = hd + d := by omega
            have HTN := Lib.hid (turn_off HT.out (hd + d) (by omega))
            have hA := ahead_any HT.out (hd + d) (by omega) (by omega) (by omega)
            rw [show max (hd + d - (hd + d)) 0 = 0 by omega] at hA
            have HA := Lib.hid hA
            have HH : Hid (∀ q, Calls Try.prog 21 #[.pointer (some ⟨wb, 0, none⟩)] (wr.drewN q) fun e w' => e = .returned (.int .i64 (hd + d)) ∧ wr.drewN q = w') := Lib.hid (fun q => hand_any (HT.out.new ((Chg.refl _ _).drewN q)))
            clear hA hlt2
            go_wp2_with fail
            refine HTN.out.mono ?_
            rintro e w5 ⟨rfl, rfl⟩
            go_wp2_with fail
            refine HA.out.mono ?_
            rintro e w5 ⟨rfl, q, rfl⟩
            go_wp2_with fail
            refine (HH.out q).mono ?_
            rintro e w5 ⟨rfl, rfl⟩
            go_wp2_with fail
            exact ⟨⟨k + 1, hd + d, by omega, by first | rfl | go_num, by first | rfl | go_num, by go_num, by omega, by omega, Lib.hid (HT.out.new ((Chg.refl _ _).drewN q))⟩, by simp [intOf]; omega⟩
      · obtain rfl : N = k := by omega
        have HB := Lib.hid HI.out.below
        clear HI
        go_wp2_with fail
        go_ret
        exact ⟨rfl, HB.out⟩
end Go.Proofs.Ytkbgococmkcjaaa
