/- A part. -/
import Derived.Test.YtkbgococmkcjaaaWtu15
import Derived.Test.YtkbgococmkcjaaaWtu18
set_option linter.unusedVariables false
set_option linter.unusedSimpArgs false
namespace Go.Proofs.Ytkbgococmkcjaaa
open Go.RowKit Go.Deep
attribute [local go_sem] fr_opt
def wZero : List Nat := List.replicate 16 0
def WNewOk (w0 w : World) (g : Gh) (st : St) (n : Nat) (hand : Int) (e : Ending) (w' : World) : Prop :=
  ∃ wb g', e = .returned (.tuple #[.pointer (some ⟨wb, 0, none⟩), .int .i64 0]) ∧ w.heap.size ≤ wb ∧ WhI w0 w' wb g' (wBegS st (wNames wH st)) (n + 2) hand wZero ∧ Gh.To w g g' w'
theorem wnew_ease {w0 w : World} {g : Gh} {st : St} {n : Nat} {hand : Int} (hd : DiskAt w g st) (hc : Chg (fun _ => False) w0 w) (hlow : ∀ k ∈ g.fp, w0.heap.size ≤ k) (h : Ease n st) (hn : n ≤ 900000) (hr : 96 ≤ (st.cap : Int) - st.size) (hm : ∀ p ∈ st.fs, p.1.size ≤ maxLen) (h0 : 0 ≤ hand) (h1 : hand ≤ 1099511627776) :
    Calls Try.prog 10 #[.pointer (some ⟨g.d, 0, none⟩), .int .i64 hand] w (WNewOk w0 w g st n hand) := by
  refine (wnew_any g st n hand w hd h.good hn hm h0 h1).mono ?_
  rintro e w' ⟨g', hd', ht, _, hok⟩
  obtain ⟨m1, m2, m3⟩ := wmade h hr
  obtain ⟨wb, he, hw, hout, hcell⟩ := hok m1
  have hz := hc.size
  refine ⟨wb, g', he, hw, ⟨hd', hc.trans ht.chg (fun i hi hx => by have := hlow i hx; omega), fun k hk => ?_, m2, by rw [ht.d]; exact hcell, by omega, hout, m3.find, rfl, fun x hx => ?_⟩, ht⟩
  · rcases ht.fp k hk with a | a
    · exact hlow k a
    · omega
  · rw [List.eq_of_mem_replicate hx]; decide
theorem wnew_first {w0 w w' : World} (hc : Chg (fun _ => False) w0 w) (hand : Int) (hd : DiskAt w' ⟨w.heap.size, none, []⟩ (newSt 1000)) (hb : Below w.heap.size w w') (h0 : 0 ≤ hand) (h1 : hand ≤ 1099511627776) :
    Calls Try.prog 10 #[.pointer (some ⟨w.heap.size, 0, none⟩), .int .i64 hand] w' (WNewOk w0 w' ⟨w.heap.size, none, []⟩ (newSt 1000) 0 hand) :=
  wnew_ease (g := ⟨w.heap.size, none, []⟩) hd (hc.trans (Chg.of_below hb : Chg (fun _ => False) w w') (fun _ _ x => x)) (fun q hq => by simp [Gh.fp] at hq; rw [hq]; exact hc.size) (Ease.new 1000) (by decide) (by decide) (fun p hp => by cases hp) h0 h1
set_option maxHeartbeats 2000000 in
set_option maxRecDepth 100000 in
theorem wawake_any (w : World) : Calls Try.prog 7 #[] w fun e w' => e = .returned (.bool true) ∧ Below w.heap.size w w' := by
  have HN := Lib.hid (new_any 1000 w)
  go_enter Try.func7, Try.ntmps7
  go_wp2_with fail
  refine HN.out.mono ?_
  rintro e w1 ⟨rfl, hd1, hb1⟩
  have HQ := Lib.hid (wnew_first (Chg.refl _ w) 5 hd1 hb1 (by decide) (by decide))
  clear hd1 hb1
  go_wp2_with fail
  refine HQ.out.mono ?_
  rintro e w2 ⟨wb, g, rfl, _, h2, _⟩
  have HA := Lib.hid (turn_on h2 7 (by decide) (by decide) (by decide))
  clear h2
  go_wp2_with fail
  refine HA.out.mono ?_
  rintro e w3 ⟨rfl, h3, _⟩
  have HB := Lib.hid (turn_on h3 7 (by decide) (by decide) (by decide))
  clear h3
  go_wp2_with fail
  refine HB.out.mono ?_
  rintro e w4 ⟨rfl, h4, _⟩
  have HC := Lib.hid (turn_off h4 7 (by decide))
  have HD := Lib.hid (hand_any h4)
  have HE := Lib.hid h4.below
  clear h4
  go_wp2_with fail
  refine HC.out.mono ?_
  rintro e w5 ⟨rfl, rfl⟩
  go_wp2_with fail
  refine HD.out.mono ?_
  rintro e w5 ⟨rfl, rfl⟩
  go_wp2_with fail
  go_ret
  exact ⟨rfl, HE.out⟩
end Go.Proofs.Ytkbgococmkcjaaa
namespace Go.Proofs.Ytkbgococmkcjaaa
open Go.RowKit Go.Deep
attribute [local go_sem] fr_opt
theorem wints_form {k : IntKind} {w : World} {v : Value} {zs : List Int} (h : IntsOf k w v zs) : ∃ a cap, v = .slice a zs.length cap := by
  obtain ⟨a, cap, e, _⟩ := h
  exact ⟨a, cap, e⟩
theorem wints_cell {k : IntKind} {w : World} {a : Option Addr} {n cap i : Nat} {zs : List Int} (h : IntsOf k w (.slice a n cap) zs) (hk : i < zs.length) : ∃ b o, a = some ⟨b, o, none⟩ ∧ w.cell? ⟨b, o + i, none⟩ = some (.int k (zs.getD i 0)) := by
  obtain ⟨a', cap', e, h⟩ := h
  cases e
  rcases h with h | ⟨b, o, e, h⟩
  · rw [h] at hk; simp at hk
  · exact ⟨b, o, e, h i hk⟩
theorem wwf64 {n : Int} (h : (Lit.int .i64 n).wf = true) : -9223372036854775808 ≤ n ∧ n ≤ 9223372036854775807 := by
  have h2 : IntKind.i64.min ≤ n ∧ n ≤ IntKind.i64.max := by simpa [Lit.wf] using h
  have h3 : IntKind.i64.max = 9223372036854775807 := rfl
  have h4 : IntKind.i64.min = -9223372036854775808 := rfl
  omega
set_option maxHeartbeats 4000000 in
set_option maxRecDepth 100000 in
theorem walk_WheelTurns (hand : Int) (v : Value) (zs : List Int) (w : World) (hh : (Lit.int .i64 hand).wf = true) (hv : IntsOf .i64 w v zs) (hf : ∀ n ∈ zs, (Lit.int .i64 n).wf = true) :
    Calls Try.prog 4 #[.int .i64 hand, v] w fun e w' => e = .returned (.bool true) ∧ Below w.heap.size w w' := by
  obtain ⟨a, cap, rfl⟩ := wints_form hv
  have hh2 := wwf64 hh
  have HAW := Lib.hid (wawake_any w)
  have hcl : ∀ W, Below w.heap.size w W → ∀ k, k < zs.length → ∃ b o, a = some ⟨b, o, none⟩ ∧ W.cell? ⟨b, o + k, none⟩ = some (.int .i64 (zs.getD k 0)) := fun W hb k hk => wints_cell (hv.below hb (Nat.le_refl _)) hk
  have hwf : ∀ k, k < zs.length → -9223372036854775808 ≤ zs.getD k 0 ∧ zs.getD k 0 ≤ 9223372036854775807 := fun k hk => by
    rw [List.getD_eq_getElem?_getD, List.getElem?_eq_getElem hk]
    exact wwf64 (hf _ (List.getElem_mem hk))
  obtain ⟨N, hN⟩ : ∃ N, N = zs.length := ⟨_, rfl⟩
  have HCL := Lib.hid hcl
  have HWF := Lib.hid hwf
  have HN := Lib.hid hN
  have hN64 : (N : Int) ≤ 9223372036854775807 ∨ 200 < N := by omega
  rw [← hN]
  clear hcl hwf hN hv hf hh
  by_cases h200 : 200 < N
  · have h200' : (200 : Int) < (N : Int) := by omega
    clear h200
    go_enter Try.func4, Try.ntmps4
    go_wp2_with fail
    refine HAW.out.mono ?_
    rintro e w1 ⟨rfl, hb1⟩
    have HB1 := Lib.hid hb1
    clear hb1
    go_wp2_with fail
    go_ret
    exact ⟨rfl, HB1.out⟩
  · have h200' : ¬ (200 : Int) < (N : Int) := by omega
    have hN200 : N ≤ 200 := by omega
    clear h200 hN64
    by_cases hbad : hand < 0 ∨ 1099511627776 < hand
    · have hbb : decide (hand < 0) = true ∨ decide (hand < 0) = false ∧ decide (1099511627776 < hand) = true := by
        by_cases h0 : hand < 0
        · exact .inl (decide_eq_true h0)
        · exact .inr ⟨decide_eq_false h0, decide_eq_true (by omega)⟩
      have HARG : Hid (∀ d w, Calls Try.prog 10 #[.pointer (some ⟨d, 0, none⟩), .int .i64 hand] w fun e w' => e = .returned (.tuple #[.pointer none, .int .i64 1]) ∧ w = w') := Lib.hid (fun d w => wnew_arg d hand w hbad)
      clear hbad hh2
      rcases hbb with q0 | ⟨q0, q1⟩
      all_goals
        go_enter Try.func4, Try.ntmps4
        go_wp2_with fail
        refine HAW.out.mono ?_
        rintro e w1 ⟨rfl, hb1⟩
        have HB1 := Lib.hid hb1
        clear hb1
        go_wp2_with fail
        refine (new_any 1000 w1).mono ?_
        rintro e w2 ⟨rfl, _, hb2⟩
        have HB2 := Lib.hid (HB1.out.trans (hb2.mono HB1.out.size))
        clear hb2
        go_wp2_with fail
        refine (HARG.out _ _).mono ?_
        rintro e w3 ⟨rfl, rfl⟩
        go_wp2_with fail
        go_ret
        exact ⟨rfl, HB2.out⟩
    · have q0 : decide (hand < 0) = false := decide_eq_false (by omega)
      have q1 : decide (1099511627776 < hand) = false := decide_eq_false (by omega)
      have h0 : 0 ≤ hand := by omega
      have h1 : hand ≤ 1099511627776 := by omega
      have H0 := Lib.hid h0
      have H1 := Lib.hid h1
      clear hbad hh2 h0 h1
      go_enter Try.func4, Try.ntmps4
      go_wp2_with fail
      refine HAW.out.mono ?_
      rintro e w1 ⟨rfl, hb1⟩
      have HB1 := Lib.hid hb1
      clear hb1
      go_wp2_with fail
      refine (new_any 1000 w1).mono ?_
      rintro e w2 ⟨rfl, hd2, hb2⟩
      have HQ := Lib.hid (wnew_first (w0 := w) (Chg.of_below HB1.out) hand hd2 hb2 H0.out H1.out)
      clear hd2 hb2
      go_wp2_with fail
      refine HQ.out.mono ?_
      rintro e w3 ⟨wb, g, rfl, _, h3, _⟩
      have HI3 := Lib.hid h3
      clear h3
      obtain ⟨st, hst⟩ : ∃ st, st = wBegS (newSt 1000) (wNames wH (newSt 1000)) := ⟨_, rfl⟩
      rw [← hst] at HI3
      clear hst
      go_wp2_with fail
      go_loopw [7, 49] (fun x i wr => ∃ (k : Nat) (hd : Int), k ≤ N ∧ x = .int .i64 hd ∧ i = .int .i64 (k : Int) ∧ 0 ≤ hd ∧ hd ≤ 1099511627776 + k ∧ Hid (WhI w wr wb g st 2 hd wZero)) (fun _ i _ => N - (intOf i).toNat)
      case atStart => exact ⟨0, hand, Nat.zero_le _, rfl, rfl, H0.out, by have := H1.out; omega, HI3⟩
      case round =>
        obtain ⟨k, hd, hk, rfl, rfl, hd0, hd1, HI⟩ := hrel
        by_cases hlt : k < N
        · have hlt' : (k : Int) < (N : Int) := by omega
          obtain ⟨b, o, rfl, hck⟩ := HCL.out wr HI.out.below k (by rw [← HN.out]; exact hlt)
          have hx2 := HWF.out k (by rw [← HN.out]; exact hlt)
          obtain ⟨x, hx⟩ : ∃ x, x = zs.getD k 0 := ⟨_, rfl⟩
          rw [← hx] at hck hx2
          clear hx hlt
          by_cases hfar : x < -1125899906842624 ∨ 1125899906842624 < x
          · have HB := Lib.hid HI.out.below
            have hbb : decide (x < -1125899906842624) = true ∨ decide (x < -1125899906842624) = false ∧ decide (1125899906842624 < x) = true := by
              by_cases h0 : x < -1125899906842624
              · exact .inl (decide_eq_true h0)
              · exact .inr ⟨decide_eq_false h0, decide_eq_true (by omega)⟩
            clear hfar hx2
            rcases hbb with p0 | ⟨p0, p1⟩
            all_goals
              go_wp2_with fail
              go_ret
              exact ⟨rfl, HB.out⟩
          · have p0 : decide (x < -1125899906842624) = false := decide_eq_false (by omega)
            have p1 : decide (1125899906842624 < x) = false := decide_eq_false (by omega)
            have x0 : -1125899906842624 ≤ x := by omega
            have x1 : x ≤ 1125899906842624 := by omega
            have hA := ahead_any HI.out x hd0 (by omega) (by omega)
            have e1 : IntKind.i64.wrap (x - hd) = x - hd := IntWalk.i64_in _ (by omega)
            have e2 : IntKind.i64.wrap (hd + 1) = hd + 1 := IntWalk.i64_in _ (by omega)
            obtain ⟨r, hr⟩ : ∃ r, r = max (x - hd) 0 := ⟨_, rfl⟩
            rw [← hr] at hA
            have HA := Lib.hid hA
            have HR := Lib.hid hr
            have hrr : (r != max (x - hd) 0) = false := by rw [hr]; simp
            have hrr2 : (r == max (x - hd) 0) = true := by rw [hr]; simp
            clear hA hr hfar hx2
            by_cases hlt2 : hd < x
            · have d1 : decide (hd < x) = true := decide_eq_true hlt2
              have HIw : Hid (∀ q, WhI w (wr.drewN q) wb g st 2 hd wZero) := Lib.hid (fun q => HI.out.new ((Chg.refl _ wr).drewN q))
              have HT : Hid (∀ q, Calls Try.prog 20 #[.pointer (some ⟨wb, 0, none⟩), .int .i64 x] (wr.drewN q) fun e w' => e = .returned (.tuple #[.int .i64 (hd + 1), .bool true]) ∧ WhI w w' wb g st 2 (hd + 1) wZero ∧ Chg (fun q => q = wb) (wr.drewN q) w') := Lib.hid (fun q => turn_on (HIw.out q) x hlt2 hd0 (by omega))
              clear hlt2
              go_wp2_with fail
              refine HA.out.mono ?_
              rintro e w4 ⟨rfl, q, rfl⟩
              go_wp2_with fail
              refine (HT.out q).mono ?_
              rintro e w5 ⟨rfl, h5, _⟩
              have HI5 := Lib.hid h5
              have HH := Lib.hid (hand_any h5)
              clear h5
              go_wp2_with fail
              refine HH.out.mono ?_
              rintro e w6 ⟨rfl, rfl⟩
              go_wp2_with fail
              exact ⟨⟨k + 1, hd + 1, by omega, by first | rfl | trivial | go_num, by go_num, by omega, by omega, HI5⟩, by simp [intOf]; omega⟩
            · have d1 : decide (hd < x) = false := decide_eq_false hlt2
              have HIw : Hid (∀ q, WhI w (wr.drewN q) wb g st 2 hd wZero) := Lib.hid (fun q => HI.out.new ((Chg.refl _ wr).drewN q))
              have HT : Hid (∀ q, Calls Try.prog 20 #[.pointer (some ⟨wb, 0, none⟩), .int .i64 x] (wr.drewN q) fun e w' => e = .returned (.tuple #[.int .i64 0, .bool false]) ∧ wr.drewN q = w') := Lib.hid (fun q => turn_off (HIw.out q) x (by omega))
              have HH : Hid (∀ q, Calls Try.prog 21 #[.pointer (some ⟨wb, 0, none⟩)] (wr.drewN q) fun e w' => e = .returned (.int .i64 hd) ∧ wr.drewN q = w') := Lib.hid (fun q => hand_any (HIw.out q))
              clear hlt2
              go_wp2_with fail
              refine HA.out.mono ?_
              rintro e w4 ⟨rfl, q, rfl⟩
              go_wp2_with fail
              refine (HT.out q).mono ?_
              rintro e w5 ⟨rfl, rfl⟩
              go_wp2_with fail
              refine (HH.out q).mono ?_
              rintro e w6 ⟨rfl, rfl⟩
              go_wp2_with fail
              exact ⟨⟨k + 1, hd, by omega, by first | rfl | trivial | go_num, by go_num, by omega, by omega, Lib.hid (HIw.out q)⟩, by simp [intOf]; omega⟩
        · obtain rfl : N = k := by omega
          have HB := Lib.hid HI.out.below
          clear HI
          go_wp2_with fail
          refine (head_nil 0 wr).mono ?_
          rintro e w4 ⟨rfl, rfl⟩
          go_wp2_with fail
          refine (heads_nil wr).mono ?_
          rintro e w4 ⟨rfl, rfl⟩
          go_wp2_with fail
          refine (turn_nil 9 wr).mono ?_
          rintro e w4 ⟨rfl, rfl⟩
          go_wp2_with fail
          refine (wnew_nil 0 wr).mono ?_
          rintro e w4 ⟨rfl, rfl⟩
          go_wp2_with fail
          refine (set_nil 0 0 wr).mono ?_
          rintro e w4 ⟨rfl, rfl⟩
          go_wp2_with fail
          refine (hand_nil wr).mono ?_
          rintro e w4 ⟨rfl, rfl⟩
          go_wp2_with fail
          refine (ahead_nil 5 wr).mono ?_
          rintro e w4 ⟨rfl, rfl⟩
          go_wp2_with fail
          go_ret
          exact ⟨rfl, HB.out⟩
end Go.Proofs.Ytkbgococmkcjaaa
