/-
  entry: Cut; the law's own bytes; the example.
-/
import Derived.Test.YtcbjlleigbnogaaEntD
import Derived.BigQuiet
namespace Go.Proofs.Ytcbjlleigbnogaa
open Go.RowKit Go.Deep
set_option linter.unusedVariables false
set_option linter.unusedSimpArgs false

theorem fit63 {n : Nat} {x : Int} (hn : n ≤ 7) (h : Oc.FitN n x) : x.toNat < 9223372036854775807 := by
  obtain ⟨h0, h1⟩ := h
  have h3 : 256 ^ n ≤ 256 ^ 7 := Nat.pow_le_pow_right (by decide) hn
  have h4 : ((256 ^ n : Nat) : Int) = (256 : Int) ^ n := by rw [Int.natCast_pow]; rfl
  rw [← h4] at h1
  generalize 256 ^ n = p at h1 h3
  omega
theorem bel_drewN {B : Nat} {a w : World} (h : Below B a w) (k : Nat) : Below B a (w.drewN k) := ⟨h.os, h.tape, h.output, h.size, h.block⟩

set_option maxHeartbeats 1000000 in
theorem lbytes_any (ws : List Nat) (hw : Wide ws) (n0 n1 n2 n3 : Nat) (hws : ws = [n0, n1, n2, n3]) (a b c d : Int) (w : World) :
    Calls Try.prog 10 #[.agg #[.int .i64 n0, .int .i64 n1, .int .i64 n2, .int .i64 n3], .agg #[.int .i64 a, .int .i64 b, .int .i64 c, .int .i64 d]] w (PutPost w ws [a, b, c, d]) := by
  obtain ⟨xs, hxs⟩ : ∃ xs, xs = [a, b, c, d] := ⟨_, rfl⟩
  unfold PutPost
  rw [← hxs]
  have hk : ∀ k, k < 4 → ((w.alloc (.cells #[.int .i64 n0, .int .i64 n1, .int .i64 n2, .int .i64 n3] 32)).alloc (.cells #[.int .i64 a, .int .i64 b, .int .i64 c, .int .i64 d] 32)).cell? ⟨w.heap.size, k, none⟩ = some (.int .i64 (ws.getD k 0 : Nat)) ∧
      ((w.alloc (.cells #[.int .i64 n0, .int .i64 n1, .int .i64 n2, .int .i64 n3] 32)).alloc (.cells #[.int .i64 a, .int .i64 b, .int .i64 c, .int .i64 d] 32)).cell? ⟨w.heap.size + 1, k, none⟩ = some (.int .i64 (xs.getD k 0)) := fun k hk => by
    refine ⟨?_, ?_⟩
    · rw [World.cell?_alloc_lt _ _ _ (by show w.heap.size < _; simp), cells4 w n0 n1 n2 n3 _ k hk, hws]
      match k, hk with | 0, _ | 1, _ | 2, _ | 3, _ => rfl
    · have := cells4 (w.alloc (.cells #[.int .i64 n0, .int .i64 n1, .int .i64 n2, .int .i64 n3] 32)) a b c d 32 k hk
      rw [hxs]
      simpa using this
  have hB : Below w.heap.size w ((w.alloc (.cells #[.int .i64 n0, .int .i64 n1, .int .i64 n2, .int .i64 n3] 32)).alloc (.cells #[.int .i64 a, .int .i64 b, .int .i64 c, .int .i64 d] 32)) := ((Below.refl _ _).alloc (Nat.le_refl _) _).alloc (by simp) _
  obtain ⟨W, hW⟩ : ∃ W, W = ((w.alloc (.cells #[.int .i64 n0, .int .i64 n1, .int .i64 n2, .int .i64 n3] 32)).alloc (.cells #[.int .i64 a, .int .i64 b, .int .i64 c, .int .i64 d] 32)) := ⟨_, rfl⟩
  have hsz : W.heap.size = w.heap.size + 1 + 1 := by rw [hW]; simp
  rw [← hW] at hk hB
  have HK := Lib.hid hk
  have HB := Lib.hid hB
  have HW := Lib.hid hW
  have HS := Lib.hid hsz
  have HWI := Lib.hid hw
  clear hk hB hW hxs hws hsz hw
  go_enter Try.func10, Try.ntmps10
  go_wp2_with fail
  rw [← HW.out]
  go_loopw [6, 8] (fun t i wr => ∃ k : Nat, k ≤ 4 ∧ i = .int .i64 k ∧ t = .string ⟨(bytesK ws xs k).toArray⟩ ∧ Hid (fitK ws xs k) ∧ Hid (Below W.heap.size W wr)) (fun _ i _ => 4 - (intOf i).toNat)
  case atStart => exact ⟨0, Nat.zero_le _, rfl, rfl, Lib.hid (fun i hi => by omega), Lib.hid (Below.refl _ _)⟩
  case round =>
    obtain ⟨k, hk, rfl, rfl, hfit, hbel⟩ := hrel
    by_cases hlt : k < 4
    · obtain ⟨n, hn⟩ : ∃ n, n = ws.getD k 0 := ⟨_, rfl⟩
      obtain ⟨x, hx⟩ : ∃ x, x = xs.getD k 0 := ⟨_, rfl⟩
      have h17 := HWI.out.2 k hlt
      rw [← hn] at h17
      have hs : w.heap.size + 1 < W.heap.size := by rw [HS.out]; omega
      have cw : wr.cell? ⟨w.heap.size, k, none⟩ = some (.int .i64 n) := by
        rw [hbel.out.cell (p := ⟨w.heap.size, k, none⟩) (by show w.heap.size < _; omega), (HK.out k hlt).1, ← hn]
      have cx : wr.cell? ⟨w.heap.size + 1, k, none⟩ = some (.int .i64 x) := by
        rw [hbel.out.cell (p := ⟨w.heap.size + 1, k, none⟩) hs, (HK.out k hlt).2, ← hx]
      have HXX := Lib.hid hx
      have HN := Lib.hid hn
      clear hn hx
      by_cases hf : Oc.FitN n x
      · have hd : decide (Oc.FitN n x) = true := decide_eq_true hf
        have HF := Lib.hid hf
        have hx63 := fit63 h17.2 hf
        have hx0 : (x.toNat : Int) = x := Int.toNat_of_nonneg hf.1
        have HX0 := Lib.hid hx0
        clear hf hx0
        go_wp2_with fail
        go_quiet ((go_at_call 19; exact Calls.quiet_of ((Oc.fits_any n x _ (by omega)).mono fun _ _ hh => ⟨hh.1, 0, hh.2.symm⟩)))
        rw [hd]
        go_wp2_with fail
        have hcat : (⟨(bytesK ws xs k).toArray⟩ : ByteArray) ++ ⟨(Oc.numB n x.toNat).toArray⟩ = ⟨(bytesK ws xs (k + 1)).toArray⟩ := by
          rw [append_toArray, bytesK, ← HN.out, ← HXX.out]
        have hl1 := bytesK_le HWI.out xs k hk
        have hl2 : (Oc.numB n x.toNat).length ≤ 7 := by rw [Oc.numB_length]; exact h17.2
        obtain ⟨t, ht⟩ : ∃ t, t = (⟨(bytesK ws xs k).toArray⟩ : ByteArray) := ⟨_, rfl⟩
        obtain ⟨u, hu⟩ : ∃ t, t = (⟨(Oc.numB n x.toNat).toArray⟩ : ByteArray) := ⟨_, rfl⟩
        have hadd0 : t.size + u.size ≤ 1000 := by rw [ht, hu, Oc.size_of', Oc.size_of']; omega
        have hadd : ∀ W, (Op.stringOp .add t u).run Try.prog W = .ok (.string (t ++ u)) W := fun W => run_string_add W t u (by omega) (by omega)
        rw [← ht, ← hu] at hcat
        rw [← ht]
        have HCAT := Lib.hid hcat
        have HU := Lib.hid hu
        have k0 := cw
        have k1 := cx
        clear hcat hl1 hl2 ht hu
        go_region_held3 (fun w' => w'.cell? ⟨w.heap.size, k, none⟩ = some (.int .i64 n) ∧ w'.cell? ⟨w.heap.size + 1, k, none⟩ = some (.int .i64 x))
          (first | exact ⟨k0, k1⟩ | go_keep)
          (first
            | (go_at_call 20
               rw [← HX0.out]
               refine (Oc.refNum_any n x.toNat _ h17.2 hx63).mono ?_
               rintro e w2 ⟨he, hb2⟩
               rw [← HU.out] at he
               subst he
               have k0 := keep4 hb2 k0
               have k1 := keep4 hb2 k1
               have HB2 := Lib.hid hb2
               clear hb2))
        all_goals
          go_wp2_with fail
          refine ⟨⟨k + 1, by omega, by go_num, by rw [HCAT.out], Lib.hid (fun i hi => ?_), Lib.hid ?_⟩, by simp [intOf]; omega⟩
          · rcases Nat.lt_succ_iff_lt_or_eq.1 hi with h | rfl
            · exact hfit.out i h
            · rw [← HN.out, ← HXX.out]; exact HF.out
          · repeat (first | exact hbel.out | with_reducible refine Below.drew ?_ | with_reducible refine bel_drewN ?_ _ | refine below_on HB2.out ?_ (Nat.le_refl _))
      · have hd : decide (Oc.FitN n x) = false := decide_eq_false hf
        have HNO := Lib.hid (show fit4 ws xs = false from Bool.eq_false_iff.2 fun h => hf (by rw [HN.out, HXX.out]; exact fit4_iff.1 h k hlt))
        clear hf
        go_wp2_with fail
        go_quiet ((go_at_call 19; exact Calls.quiet_of ((Oc.fits_any n x _ (by omega)).mono fun _ _ hh => ⟨hh.1, 0, hh.2.symm⟩)))
        rw [hd]
        go_wp2_with fail
        go_ret2
        refine ⟨?_, ?_⟩
        · unfold put4
          rw [HNO.out]
          rfl
        · repeat (first | exact HB.out | with_reducible refine Below.drew ?_ | with_reducible refine bel_drewN ?_ _ | refine below_on hbel.out ?_ (Nat.le_refl _))
    · obtain rfl : k = 4 := by omega
      have HYES := Lib.hid (show fit4 ws xs = true from fit4_iff.2 hfit.out)
      go_wp2_with fail
      go_ret2
      refine ⟨?_, ?_⟩
      · unfold put4
        rw [HYES.out]
        rfl
      · exact below_on hbel.out HB.out (Nat.le_refl _)
end Go.Proofs.Ytcbjlleigbnogaa
