/-
  The contracts of cutNum and of a reader's Num: the number of the next n bytes, the highest first.
-/
import Derived.Test.YtelpkniockhjgaaGreatOct
namespace Go.Proofs.YtelpkniockhjgaaGreat.Oc
open Go.RowKit

/-- The number of some bytes, the highest first. -/
def getN (l : List UInt8) : Nat := l.foldl (fun a c => 256 * a + c.toNat) 0
theorem getN_nil : getN [] = 0 := rfl
theorem getN_snoc (l : List UInt8) (c : UInt8) : getN (l ++ [c]) = 256 * getN l + c.toNat := by simp [getN]
theorem getN_lt : ∀ l : List UInt8, getN l < 256 ^ l.length := by
  intro l
  suffices h : ∀ (r : List UInt8), getN r.reverse < 256 ^ r.length by simpa using h l.reverse
  intro r
  induction r with
  | nil => simp [getN]
  | cons c r ih =>
    rw [List.reverse_cons, getN_snoc, List.length_cons, Nat.pow_succ]
    have := c.toNat_lt
    omega

/-- A number off s: it, the rest, the error. -/
def numS (s : ByteArray) (n : Int) : Nat × ByteArray × Int :=
  if 1 ≤ n ∧ n ≤ 7 then (if (cutS s n).2.2 = 0 then (getN (cutS s n).1.data.toList, (cutS s n).2.1, 0) else (0, ⟨#[]⟩, (cutS s n).2.2)) else (0, ⟨#[]⟩, 1)

theorem cutS_size {s t rest : ByteArray} {n : Int} (h : cutS s n = (t, rest, 0)) : (t.size : Int) = n := by
  unfold cutS at h
  split at h
  · simp at h
  · split at h
    · simp at h
    · simp only [Prod.mk.injEq] at h
      obtain ⟨rfl, _, _⟩ := h
      simp [ByteArray.size_extract]
      omega
theorem take_snoc (s : ByteArray) (k : Nat) (h : k < s.size) : s.data.toList.take (k + 1) = s.data.toList.take k ++ [s[k]] := by
  rw [List.take_succ_eq_append_getElem (by simpa using h)]; rfl

theorem num_step (a c : Nat) (ha : a < 256 ^ 6) (hc : c < 256) : bits BinOp.or IntKind.i64 (wrap64 ((a : Int) * 256)) (wrap64 (c : Int)) = ((256 * a + c : Nat) : Int) := by
  rw [IntWalk.wrap64_in _ ⟨by omega, by omega⟩, IntWalk.wrap64_in _ ⟨by omega, by omega⟩]
  rw [bits_join .i64 62 (by decide) (fun n h0 h1 => by rw [IntKind.wrap_i64]; omega) 8 _ _ (by omega) (by omega) (by omega) (by omega) (by omega) (by omega)]
  omega

set_option maxHeartbeats 400000 in
theorem cutNum_any (s : ByteArray) (n : Int) (w : World) {v : Nat} {rest : ByteArray} {x : Int} (hc : numS s n = (v, rest, x)) : Calls Tryz.prog 74 #[.string s, .int .i64 n] w fun e w' => e = .returned (.tuple #[.int .i64 v, .string rest, .int .i64 x]) ∧ ∃ k, w' = w.drewN k := by
  unfold numS at hc
  by_cases h : 1 ≤ n ∧ n ≤ 7
  · rw [if_pos h] at hc
    have hd := decide_eq_true h
    obtain ⟨h1, h2⟩ := h
    obtain ⟨t, r, y, hy⟩ : ∃ t r y, cutS s n = (t, r, y) := ⟨_, _, _, rfl⟩
    rw [hy] at hc
    have HY := Lib.hid hy
    have HD := Lib.hid hd
    clear hd
    by_cases h0 : y = 0
    · subst h0
      have hz := cutS_size hy
      simp only [if_true, Prod.mk.injEq] at hc
      obtain ⟨hv, rfl, rfl⟩ := hc
      have HV := Lib.hid hv
      clear hv hy
      obtain ⟨m, rfl⟩ : ∃ m : Nat, n = m := ⟨n.toNat, by omega⟩
      obtain rfl : t.size = m := by omega
      clear hz
      go_enter Tryz.func74, Tryz.ntmps74
      go_wp2_with fail
      refine (isWidth_any _ _).mono ?_
      rintro e w' ⟨rfl, rfl⟩
      rw [HD.out]
      go_wp2_with fail
      refine (cut_any _ _ _ HY.out).mono ?_
      rintro e w' ⟨rfl, k0, rfl⟩
      go_wp2_with fail
      go_loop [10, 26] (fun x i => ∃ k : Nat, k ≤ t.size ∧ i = .int .i64 k ∧ x = .int .i64 (getN (t.data.toList.take k))) (fun _ i => t.size - (intOf i).toNat)
      case atStart => exact ⟨0, Nat.zero_le _, rfl, rfl⟩
      case round =>
        obtain ⟨k, hk, rfl, rfl⟩ := hrel
        by_cases hlt : k < t.size
        · have hb := getN_lt (t.data.toList.take k)
          have hp : 256 ^ (t.data.toList.take k).length ≤ 256 ^ 6 := Nat.pow_le_pow_right (by decide) (by simp; omega)
          have HJ := Lib.hid (num_step (getN (t.data.toList.take k)) t[k].toNat (by omega) t[k].toNat_lt)
          have HG := Lib.hid (getN_snoc (t.data.toList.take k) t[k])
          have HT := Lib.hid (take_snoc t k hlt)
          clear hb hp
          go_wp2_with fail
          refine ⟨⟨k + 1, by omega, by go_num, ?_⟩, by simp [intOf]; omega⟩
          rw [HJ.out, HT.out, HG.out]
        · obtain rfl : k = t.size := by omega
          clear hlt
          go_wp2_with fail
          go_ret3
          refine ⟨?_, _, rfl⟩
          rw [List.take_of_length_le (by simp), HV.out]
          rfl
    · rw [if_neg h0] at hc
      simp only [Prod.mk.injEq] at hc
      obtain ⟨rfl, rfl, rfl⟩ := hc
      have hb : (y == 0) = false := by simpa using h0
      clear hy h0
      go_enter Tryz.func74, Tryz.ntmps74
      go_wp2_with fail
      refine (isWidth_any _ _).mono ?_
      rintro e w' ⟨rfl, rfl⟩
      rw [HD.out]
      go_wp2_with fail
      refine (cut_any _ _ _ HY.out).mono ?_
      rintro e w' ⟨rfl, k0, rfl⟩
      go_wp2_with fail
      go_ret3
      exact ⟨rfl, _, rfl⟩
  · rw [if_neg h] at hc
    have HD := Lib.hid (decide_eq_false h)
    simp only [Prod.mk.injEq] at hc
    obtain ⟨rfl, rfl, rfl⟩ := hc
    clear h
    go_enter Tryz.func74, Tryz.ntmps74
    go_wp2_with fail
    refine (isWidth_any _ _).mono ?_
    rintro e w' ⟨rfl, rfl⟩
    rw [HD.out]
    go_wp2_with fail
    go_ret3
    exact ⟨rfl, 0, rfl⟩

theorem num_none (b : Nat) (s : ByteArray) (n x : Int) (w : World) (h : Rd w b s x) (hx : x ≠ 0) : Calls Tryz.prog 56 #[.pointer (some ⟨b, 0, none⟩), .int .i64 n] w fun e w' => e = .returned (.int .i64 0) ∧ w = w' := by
  have hb : (x == 0) = false := by simpa using hx
  have H := Lib.hid h
  clear h hx
  go_enter Tryz.func56, Tryz.ntmps56
  go_wp2_with (go_at_call 73; refine (err_any _ _ _ _ H.out).mono ?_; rintro e w' ⟨rfl, rfl⟩)
  go_ret
  exact ⟨rfl, rfl⟩

theorem num_any (b : Nat) (s : ByteArray) (n : Int) (w : World) (h : Rd w b s 0) {v : Nat} {rest : ByteArray} {x : Int} (hc : numS s n = (v, rest, x)) : Calls Tryz.prog 56 #[.pointer (some ⟨b, 0, none⟩), .int .i64 n] w fun e w' => e = .returned (.int .i64 v) ∧ Rd w' b (goS s rest x) x ∧ w.grownBy w' (some b) := by
  have h1 := h.rest
  have H := Lib.hid h
  have HC := Lib.hid hc
  clear h hc
  go_enter Tryz.func56, Tryz.ntmps56
  go_wp2_with fail
  refine (err_any _ _ _ _ H.out).mono ?_
  rintro e w' ⟨rfl, rfl⟩
  go_wp2_with fail
  refine (cutNum_any _ _ _ HC.out).mono ?_
  rintro e w' ⟨rfl, k, rfl⟩
  go_wp2_with fail
  refine (goOn_any b s rest x _ (H.out.drewN k)).mono ?_
  rintro e w' ⟨rfl, hr, hg⟩
  have HR := Lib.hid hr
  have HG := Lib.hid (grownBy_trans (grownBy_drewN w k _) hg)
  clear hr hg
  go_wp2
  go_ret
  exact ⟨rfl, HR.out, HG.out⟩
end Go.Proofs.YtelpkniockhjgaaGreat.Oc
