/-
  The contract of the document's own comparison of lists.
-/
import Derived.Test.YtmoehmclcegmnaaWords
namespace Go.Proofs.Ytmoehmclcegmnaa
open Go.RowKit Go.Deep

set_option maxHeartbeats 400000 in
theorem refSame_any (v u : Value) (ts us : List ByteArray) (w : World) (hv : Strs w 0 v ts) (hu : Strs w 0 u us) (hl : ts.length ≤ 1000000) : Calls Try.prog 19 #[v, u] w fun e w' => e = .returned (.bool (decide (ts = us))) ∧ ∃ k, w' = w.drewN k := by
  have HV := Lib.hid hv
  have HU := Lib.hid hu
  obtain ⟨a, cap, rfl⟩ := hv.form
  obtain ⟨c, cap2, rfl⟩ := hu.form
  clear hv hu
  by_cases hlen : ts.length = us.length
  · have hb : ((ts.length : Int) == us.length) = true := by simp [hlen]
    have hnb : ((ts.length : Int) != us.length) = false := by simp [hlen]
    have HLEN := Lib.hid hlen
    clear hlen
    go_enter Try.func19, Try.ntmps19
    go_wp2_with fail
    go_loopw [5] (fun i wr => ∃ k : Nat, k ≤ ts.length ∧ i = .int .i64 k ∧ ts.take k = us.take k ∧ ∃ d, wr = w.drewN d) (fun i _ => ts.length - (intOf i).toNat)
    case atStart => exact ⟨0, Nat.zero_le _, rfl, rfl, 0, rfl⟩
    case round =>
      obtain ⟨k, hk, rfl, heq, d, rfl⟩ := hrel
      have HEQ := Lib.hid heq
      clear heq
      by_cases hlt : k < ts.length
      · obtain ⟨b, o, rfl, hck⟩ := HV.out.cellAt hlt
        obtain ⟨b2, o2, rfl, hck2⟩ := HU.out.cellAt (i := k) (by rw [← HLEN.out]; exact hlt)
        have hlt2 : k < us.length := by rw [← HLEN.out]; exact hlt
        obtain ⟨t, ht⟩ : ∃ t, t = ts.getD k ⟨#[]⟩ := ⟨_, rfl⟩
        obtain ⟨u, hu⟩ : ∃ t, t = us.getD k ⟨#[]⟩ := ⟨_, rfl⟩
        rw [← ht] at hck
        rw [← hu] at hck2
        have HT := Lib.hid ht
        have HUU := Lib.hid hu
        clear ht hu
        by_cases htu : t = u
        · subst htu
          go_wp2_with fail
          go_quiet (fail)
          go_wp2_with fail
          refine ⟨⟨k + 1, by omega, by go_num, ?_, _, rfl⟩, by simp [intOf]; omega⟩
          rw [take_snoc' ts hlt, take_snoc' us hlt2, HEQ.out, ← HT.out, ← HUU.out]
        · have hne : t.toList ≠ u.toList := fun h => htu (by rw [← ba_toList t, h, ba_toList u])
          have HNE : Hid (¬ ts = us) := Lib.hid fun h => htu (by rw [HT.out, HUU.out, h])
          have h1 : (t.toList == u.toList) = false := by simpa using hne
          have h2 : (t.toList != u.toList) = true := by simpa using hne
          clear htu hne
          go_wp2_with fail
          go_quiet (fail)
          go_wp2_with fail
          go_ret
          exact ⟨by rw [decide_eq_false HNE.out]; rfl, d + _, drewN_add _ _ _⟩
      · obtain rfl : k = ts.length := by omega
        have h : ts = us := by
          have h1 := HEQ.out
          rwa [List.take_of_length_le (Nat.le_refl _), List.take_of_length_le (by rw [HLEN.out]; exact Nat.le_refl _)] at h1
        have HD := Lib.hid (decide_eq_true h)
        clear h
        go_wp2_with fail
        go_ret
        exact ⟨by rw [HD.out]; rfl, _, rfl⟩
  · have HD := Lib.hid (decide_eq_false (show ¬ ts = us from fun h => hlen (by rw [h])))
    have hb : ((ts.length : Int) == us.length) = false := by simpa using (show ¬ (ts.length : Int) = us.length by omega)
    have hnb : ((ts.length : Int) != us.length) = true := by simpa using (show ¬ (ts.length : Int) = us.length by omega)
    clear hlen
    go_enter Try.func19, Try.ntmps19
    go_wp2_with fail
    go_ret
    exact ⟨by rw [HD.out]; rfl, 0, rfl⟩
end Go.Proofs.Ytmoehmclcegmnaa
