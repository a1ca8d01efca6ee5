/- A part. -/
import Derived.Test.YtkbgococmkcjaaaWsl5
import Derived.Test.YtkbgococmkcjaaaWsl6
set_option linter.unusedVariables false
set_option linter.unusedSimpArgs false
namespace Go.Proofs.Ytkbgococmkcjaaa
open Go.RowKit Go.Deep
theorem ints_form {w : World} {v : Value} {zs : List Int} (h : Ints w v zs) : ∃ a cap, v = .slice a zs.length cap := by
  obtain ⟨a, cap, e, _⟩ := h
  exact ⟨a, cap, e⟩
theorem ints_cell {w : World} {a : Option Addr} {n cap k : Nat} {zs : List Int} (h : Ints w (.slice a n cap) zs) (hk : k < zs.length) : ∃ b o, a = some ⟨b, o, none⟩ ∧ w.cell? ⟨b, o + k, none⟩ = some (.int .i64 (zs.getD k 0)) := by
  obtain ⟨a', cap', e, h⟩ := h
  cases e
  rcases h with h | ⟨b, o, e, h⟩
  · rw [h] at hk; simp at hk
  · exact ⟨b, o, e, h k hk⟩
theorem take_snoc_int (ts : List Int) {k : Nat} (h : k < ts.length) : ts.take (k + 1) = ts.take k ++ [ts.getD k 0] := by
  rw [List.take_add_one, List.getElem?_eq_getElem h, List.getD_eq_getElem?_getD, List.getElem?_eq_getElem h]
  rfl
set_option maxHeartbeats 400000 in
theorem ints_any (v u : Value) (ts us : List Int) (w : World) (hv : Ints w v ts) (hu : Ints w u us) (hl : ts.length ≤ 1000000) : Calls Try.prog 18 #[v, u] w fun e w' => e = .returned (.bool (decide (ts = us))) ∧ ∃ k, w' = w.drewN k := by
  have HV := Lib.hid hv
  have HU := Lib.hid hu
  obtain ⟨a, cap, rfl⟩ := ints_form hv
  obtain ⟨c, cap2, rfl⟩ := ints_form hu
  clear hv hu
  by_cases hlen : ts.length = us.length
  · have hb : ((ts.length : Int) == us.length) = true := by simp [hlen]
    have hnb : ((ts.length : Int) != us.length) = false := by simp [hlen]
    have HLEN := Lib.hid hlen
    clear hlen
    go_enter Try.func18, Try.ntmps18
    go_wp2_with fail
    go_loopw [5] (fun i wr => ∃ k : Nat, k ≤ ts.length ∧ i = .int .i64 k ∧ ts.take k = us.take k ∧ ∃ d, wr = w.drewN d) (fun i _ => ts.length - (intOf i).toNat)
    case atStart => exact ⟨0, Nat.zero_le _, rfl, rfl, 0, rfl⟩
    case round =>
      obtain ⟨k, hk, rfl, heq, d, rfl⟩ := hrel
      have HEQ := Lib.hid heq
      clear heq
      by_cases hlt : k < ts.length
      · obtain ⟨b, o, rfl, hck⟩ := ints_cell HV.out hlt
        obtain ⟨b2, o2, rfl, hck2⟩ := ints_cell (k := k) HU.out (by rw [← HLEN.out]; exact hlt)
        have hlt2 : k < us.length := by rw [← HLEN.out]; exact hlt
        obtain ⟨t, ht⟩ : ∃ t, t = ts.getD k 0 := ⟨_, rfl⟩
        obtain ⟨u, hu⟩ : ∃ t, t = us.getD k 0 := ⟨_, rfl⟩
        rw [← ht] at hck
        rw [← hu] at hck2
        have HT := Lib.hid ht
        have HUU := Lib.hid hu
        clear ht hu
        by_cases htu : t = u
        · subst htu
          go_wp2_with fail
          go_quiet (fail)
          go_wp2_with fail
          refine ⟨⟨k + 1, by omega, by go_num, ?_, _, rfl⟩, by simp [intOf]; omega⟩
          rw [take_snoc_int ts hlt, take_snoc_int us hlt2, HEQ.out, ← HT.out, ← HUU.out]
        · have HNE : Hid (¬ ts = us) := Lib.hid fun h => htu (by rw [HT.out, HUU.out, h])
          have h1 : (t == u) = false := by simpa using htu
          have h2 : (t != u) = true := by simpa using htu
          clear htu
          go_wp2_with fail
          go_quiet (fail)
          go_wp2_with fail
          go_ret
          exact ⟨by rw [decide_eq_false HNE.out]; rfl, d + _, drewN_add _ _ _⟩
      · obtain rfl : k = ts.length := by omega
        have h : ts = us := by
          have h1 := HEQ.out
          rwa [List.take_of_length_le (Nat.le_refl _), List.take_of_length_le (by rw [HLEN.out]; exact Nat.le_refl _)] at h1
        have HD := Lib.hid (decide_eq_true h)
        clear h
        go_wp2_with fail
        go_ret
        exact ⟨by rw [HD.out]; rfl, _, rfl⟩
  · have HD := Lib.hid (decide_eq_false (show ¬ ts = us from fun h => hlen (by rw [h])))
    have hb : ((ts.length : Int) == us.length) = false := by simpa using (show ¬ (ts.length : Int) = us.length by omega)
    have hnb : ((ts.length : Int) != us.length) = true := by simpa using (show ¬ (ts.length : Int) = us.length by omega)
    clear hlen
    go_enter Try.func18, Try.ntmps18
    go_wp2_with fail
    go_ret
    exact ⟨by rw [HD.out]; rfl, 0, rfl⟩
def ListJ (B base : Nat) (a : List Int) (W : World) : Prop :=
  ∃ v, W.heap[B]? = some (.cells #[v] 34 (0, 0)) ∧ W.ownsRow base 3 1 v a.length (a.map (Value.int .i64)) ∧ B < base ∧ base ≤ W.heap.size
theorem ListJ.chg {B base : Nat} {a : List Int} {W W' : World} {S : Nat → Prop} (h : ListJ B base a W) (hc : Chg S W W') (hB : ¬ S B) (hS : ∀ q, base ≤ q → q < W.heap.size → ¬ S q) : ListJ B base a W' := by
  obtain ⟨v, h1, h2, h3, h4⟩ := h
  exact ⟨v, hc.heap h1 hB, hc.row h2 (fun q hq => hS q (h2.lt q hq).1 (h2.lt q hq).2), h3, Nat.le_trans h4 hc.size⟩
theorem ListJ.new {B base : Nat} {a : List Int} {W W' : World} (h : ListJ B base a W) (hc : Chg (fun _ => False) W W') : ListJ B base a W' := h.chg hc (fun x => x) (fun _ _ _ x => x)
end Go.Proofs.Ytkbgococmkcjaaa
