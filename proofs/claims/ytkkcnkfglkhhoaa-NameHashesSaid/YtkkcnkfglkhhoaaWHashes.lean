/-
  NameHashes and NameParts, walked: true for every input; only new memory is written.
-/
import Derived.Test.YtkkcnkfglkhhoaaNamA
namespace Go.Proofs.Ytkkcnkfglkhhoaa
open Go.RowKit Go.Deep

theorem strs_one (w : World) (s : ByteArray) : Strs (w.alloc (.cells #[.string s] 9)) 0 (.slice (some ⟨w.heap.size, 0, none⟩) 1 1) [s] :=
  ⟨some ⟨w.heap.size, 0, none⟩, 1, rfl, .inr ⟨_, _, rfl, Nat.zero_le _, fun i hi => by
    obtain rfl : i = 0 := by simp at hi; exact hi
    simp⟩⟩
theorem strs_two (w : World) (s t : ByteArray) : Strs (w.alloc (.cells #[.string s, .string t] 9)) 0 (.slice (some ⟨w.heap.size, 0, none⟩) 2 2) [s, t] :=
  ⟨some ⟨w.heap.size, 0, none⟩, 2, rfl, .inr ⟨_, _, rfl, Nat.zero_le _, fun i hi => by
    match i, hi with
    | 0, _ => simp
    | 1, _ => simp⟩⟩
theorem flat_add (ts : List ByteArray) {k : Nat} (h : k < ts.length) : (⟨(flatB (ts.take k)).toArray⟩ : ByteArray) ++ ts.getD k ⟨#[]⟩ = ⟨(flatB (ts.take (k + 1))).toArray⟩ := by
  rw [flatB_snoc ts h, ← append_toArray, Array.toArray_toList]
theorem flatB_size (ts : List ByteArray) {t : ByteArray} (h : t ∈ ts) : t.size ≤ (flatB ts).length := by
  unfold flatB
  induction ts with
  | nil => cases h
  | cons a ts ih =>
    rw [List.flatMap_cons, List.length_append]
    rcases List.mem_cons.1 h with rfl | h
    · show t.data.size ≤ _
      rw [Array.length_toList]
      omega
    · have := ih h
      omega
theorem allP_snoc (ts : List ByteArray) {k : Nat} (h : k < ts.length) : (ts.take (k + 1)).all plainB = ((ts.take k).all plainB && plainB (ts.getD k ⟨#[]⟩)) := by
  rw [take_snoc' ts h, List.all_append]; simp

set_option maxRecDepth 100000 in
set_option maxHeartbeats 2000000 in
theorem walk_NameHashes (v : Value) (ts : List ByteArray) (w : World) (hv : Strs w 0 v ts) (hl : ts.length ≤ maxLen) (hr : ∀ t ∈ ts, t.size ≤ 140737488351232) :
    Calls Try.prog 4 #[v] w fun e w' => e = .returned (.bool true) ∧ Below w.heap.size w w' := by
  have HLM := Lib.hid hl
  unfold maxLen at hl
  have HV := Lib.hid hv
  have HR := Lib.hid hr
  obtain ⟨a, cap, rfl⟩ := hv.form
  clear hv hr
  go_enter Try.func4, Try.ntmps4
  go_wp2_with fail
  refine (awake_any _).mono ?_
  rintro e w1 ⟨rfl, hb⟩
  have HB1 := Lib.hid hb
  clear hb
  go_wp2_with fail
  go_loop [3, 4, 11] (fun s p i => ∃ k : Nat, k ≤ ts.length ∧ i = .int .i64 k ∧ s = .string ⟨(flatB (ts.take k)).toArray⟩ ∧ p = .bool ((ts.take k).all plainB) ∧ (flatB (ts.take k)).length ≤ 1000) (fun _ _ i => ts.length - (intOf i).toNat)
  case atStart => exact ⟨0, Nat.zero_le _, rfl, rfl, by simp, by simp [flatB]⟩
  case round =>
    obtain ⟨k, hk, rfl, rfl, rfl, hsz⟩ := hrel
    by_cases hlt : k < ts.length
    · obtain ⟨b, o, rfl, hck⟩ := (HV.out.below HB1.out (Nat.le_refl _)).cellAt hlt
      have HADD := Lib.hid (flat_add ts hlt)
      have HALL := Lib.hid (allP_snoc ts hlt)
      obtain ⟨t, ht⟩ : ∃ t, t = ts.getD k ⟨#[]⟩ := ⟨_, rfl⟩
      rw [← ht] at hck HADD HALL
      obtain ⟨A, hA⟩ : ∃ A : ByteArray, A = ⟨(flatB (ts.take k)).toArray⟩ := ⟨_, rfl⟩
      rw [← hA] at HADD ⊢
      have htr : t.size ≤ 140737488351232 := HR.out t (by rw [ht]; simp [List.getD_eq_getElem?_getD, List.getElem?_eq_getElem hlt])
      have hAs : A.size ≤ 1000 := by rw [hA]; simpa [ByteArray.size] using hsz
      have htm : Hid (t.size ≤ maxLen) := Lib.hid (by unfold maxLen; omega)
      obtain ⟨p, hp⟩ : ∃ p, p = (ts.take k).all plainB := ⟨_, rfl⟩
      rw [← hp] at HALL ⊢
      have HT := Lib.hid ht
      have HA := Lib.hid hA
      clear ht hA hsz hp
      have hsz2 : A.size + t.size ≤ 1000 → (flatB (ts.take (k + 1))).length ≤ 1000 := by
        intro hle
        have h := congrArg ByteArray.size HADD.out
        rw [ByteArray.size_append] at h
        have h2 : (⟨(flatB (ts.take (k + 1))).toArray⟩ : ByteArray).size = (flatB (ts.take (k + 1))).length := by simp [ByteArray.size]
        omega
      have HSZ2 := Lib.hid hsz2
      clear hsz2
      cases p
      · by_cases hsz3 : A.size + t.size ≤ 1000
        · go_wp2_with fail
          exact ⟨⟨k + 1, by omega, by go_num, by rw [HADD.out], by rw [HALL.out]; rfl, HSZ2.out hsz3⟩, by simp [intOf]; omega⟩
        · go_wp2_with fail
          go_ret
          exact ⟨rfl, HB1.out⟩
      · obtain ⟨q, hq⟩ : ∃ q, plainB t = q := ⟨_, rfl⟩
        have HQ := Lib.hid hq
        clear hq
        by_cases hsz3 : A.size + t.size ≤ 1000
        · go_wp2_with fail
          refine (refPlain_any t _ htm.out).mono ?_
          rintro e w2 ⟨rfl, rfl⟩
          rw [HQ.out]
          go_wp2_with fail
          exact ⟨⟨k + 1, by omega, by go_num, by rw [HADD.out], by rw [HALL.out, HQ.out]; rfl, HSZ2.out hsz3⟩, by simp [intOf]; omega⟩
        · go_wp2_with fail
          refine (refPlain_any t _ htm.out).mono ?_
          rintro e w2 ⟨rfl, rfl⟩
          rw [HQ.out]
          go_wp2_with fail
          go_ret
          exact ⟨rfl, HB1.out⟩
    · obtain rfl : k = ts.length := by omega
      rw [List.take_of_length_le (Nat.le_refl _)] at hsz ⊢
      by_cases h60 : 60 < ts.length
      · go_wp2_with fail
        go_ret
        exact ⟨rfl, HB1.out⟩
      · obtain ⟨A, hA⟩ : ∃ A : ByteArray, A = ⟨(flatB ts).toArray⟩ := ⟨_, rfl⟩
        rw [← hA]
        have hAs : A.size ≤ 1000 := by rw [hA]; simpa [ByteArray.size] using hsz
        have hAl : A.data.toList = flatB ts := by rw [hA]
        obtain ⟨n, hn⟩ : ∃ n, n = hashF 0 (flatB ts) := ⟨_, rfl⟩
        obtain ⟨p, hp⟩ : ∃ p, ts.all plainB = p := ⟨_, rfl⟩
        obtain ⟨z, hz⟩ : ∃ z, decide (ts.length = 0) = z := ⟨_, rfl⟩
        have HN := Lib.hid hn
        have HA := Lib.hid hAl
        have HP := Lib.hid hp
        have HZ := Lib.hid hz
        have hzz : ((ts.length : Int) == 0) = z := by rw [← hz, Bool.eq_iff_iff]; simp
        have HZZ := Lib.hid hzz
        have HM : Hid (∀ t ∈ ts, t.size ≤ maxLen) := Lib.hid fun t ht => by have := flatB_size ts ht; unfold maxLen; omega
        rw [hp]
        have hAm : A.size ≤ maxLen := by unfold maxLen; omega
        have HAM := Lib.hid hAm
        clear hA hAl hn hsz hp hz hzz hAm
        go_wp2_with fail
        refine (hash_any _ ts _ (HV.out.below HB1.out (Nat.le_refl _)) HLM.out HM.out).mono ?_
        rintro e w2 ⟨rfl, rfl⟩
        rw [← HN.out]
        go_wp2_with fail
        refine (refHash_any A _ HAM.out).mono ?_
        rintro e w2 ⟨rfl, rfl⟩
        rw [HA.out, ← HN.out]
        have HS := Lib.hid (strs_one w1 A)
        have HB2 : Hid (Below w.heap.size w (w1.alloc (.cells #[.string A] 9))) := Lib.hid (HB1.out.alloc HB1.out.size _)
        go_wp2_with fail
        refine (hash_any _ [A] _ HS.out (by simp [maxLen]) (fun t ht => by rw [List.mem_singleton.1 ht]; exact HAM.out)).mono ?_
        rintro e w2 ⟨rfl, rfl⟩
        rw [flatB_one, HA.out, ← HN.out]
        go_wp2_with fail
        refine (refHash_any A _ HAM.out).mono ?_
        rintro e w2 ⟨rfl, rfl⟩
        rw [HA.out, ← HN.out]
        go_wp2_with fail
        refine (all_plain _ ts p _ (HV.out.below HB2.out (Nat.le_refl _)) HLM.out HM.out HP.out).mono ?_
        rintro e w2 ⟨rfl, hb⟩
        have HB3 := Lib.hid (HB2.out.trans (hb.mono HB2.out.size))
        clear hb
        go_wp2_with fail
        refine (all_nil _ ts z _ (HV.out.below HB3.out (Nat.le_refl _)) HLM.out HZ.out).mono ?_
        rintro e w2 ⟨rfl, rfl⟩
        have hzz := HZZ.out
        go_wp2_with fail
        go_ret
        exact ⟨rfl, HB3.out⟩

/-- A number, 31 times as often. -/
def it31 : Nat → Nat → Nat
  | 0, h => h
  | k + 1, h => (it31 k h * 31) % 4294967296
theorem it31_lt {h : Nat} (hh : h < 4294967296) (k : Nat) : it31 k h < 4294967296 := by
  cases k with
  | zero => exact hh
  | succ k => exact Nat.mod_lt _ (by decide)
theorem hashF_split {h : Nat} (hh : h < 4294967296) : ∀ (n : Nat) (l : List UInt8), l.length = n → hashF h l = (it31 n h + hashF 0 l) % 4294967296 := by
  intro n
  induction n with
  | zero =>
    intro l hl
    obtain rfl := List.length_eq_zero_iff.1 hl
    show h = (h + 0) % 4294967296
    omega
  | succ n ih =>
    intro l hl
    have hne : l ≠ [] := by rintro rfl; simp at hl
    have e := List.dropLast_concat_getLast hne
    have h1 := ih l.dropLast (by rw [List.length_dropLast]; omega)
    rw [← e, hashF_snoc, hashF_snoc, h1, it31]
    omega

set_option maxRecDepth 100000 in
set_option maxHeartbeats 2000000 in
theorem walk_NameParts (a b : ByteArray) (w : World) (ha : a.size ≤ maxLen) (hb : b.size ≤ maxLen) :
    Calls Try.prog 6 #[.string a, .string b] w fun e w' => e = .returned (.bool true) ∧ Below w.heap.size w w' := by
  have HMA := Lib.hid ha
  have HMB := Lib.hid hb
  unfold maxLen at ha hb
  by_cases h1 : 500 < a.size
  · go_enter Try.func6, Try.ntmps6
    go_wp2_with fail
    refine (awake_any _).mono ?_
    rintro e w1 ⟨rfl, hb⟩
    have HB := Lib.hid hb
    clear hb
    go_wp2_with fail
    go_ret
    exact ⟨rfl, HB.out⟩
  · by_cases h2 : 500 < b.size
    · go_enter Try.func6, Try.ntmps6
      go_wp2_with fail
      refine (awake_any _).mono ?_
      rintro e w1 ⟨rfl, hb⟩
      have HB := Lib.hid hb
      clear hb
      go_wp2_with fail
      go_ret
      exact ⟨rfl, HB.out⟩
    · have hla := hashF_lt (h := 0) (by decide) a.data.toList
      have hlb := hashF_lt (h := 0) (by decide) b.data.toList
      have hsp := hashF_split hla b.size b.data.toList rfl
      obtain ⟨p, hp⟩ : ∃ p, hashF 0 a.data.toList = p := ⟨_, rfl⟩
      obtain ⟨q, hq⟩ : ∃ q, hashF 0 b.data.toList = q := ⟨_, rfl⟩
      rw [hp] at hla hsp
      rw [hq] at hlb hsp
      have hn : hashF 0 (flatB [a, b]) = (it31 b.size p + q) % 4294967296 := by rw [flatB_two, hashF_app, hp, hsp]
      have HP := Lib.hid hp
      have HQ := Lib.hid hq
      have HN := Lib.hid hn
      clear hp hq hn hsp
      have hd1 : decide ((500 : Int) < a.size) = false := by simp; omega
      have hd2 : decide ((500 : Int) < b.size) = false := by simp; omega
      go_enter Try.func6, Try.ntmps6
      go_wp2_with fail
      refine (awake_any _).mono ?_
      rintro e w1 ⟨rfl, hb⟩
      have HB := Lib.hid hb
      clear hb
      have HS1 := Lib.hid (strs_one w1 a)
      have HB2 : Hid (Below w.heap.size w (w1.alloc (.cells #[.string a] 9))) := Lib.hid (HB.out.alloc HB.out.size _)
      go_wp2_with fail
      refine (hash_any _ [a] _ HS1.out (by simp [maxLen]) (fun t ht => by rw [List.mem_singleton.1 ht]; exact HMA.out)).mono ?_
      rintro e w2 ⟨rfl, rfl⟩
      rw [flatB_one, HP.out]
      go_wp2_with fail
      obtain ⟨w2, hw2⟩ : ∃ w2, w2 = w1.alloc (.cells #[.string a] 9) := ⟨_, rfl⟩
      rw [← hw2] at HB2 ⊢
      clear hw2
      go_loop [5, 23] (fun x i => ∃ k : Nat, k ≤ b.size ∧ i = .int .i64 k ∧ x = .int .u32 (it31 k p : Nat)) (fun _ i => b.size - (intOf i).toNat)
      case atStart => exact ⟨0, Nat.zero_le _, rfl, rfl⟩
      case round =>
        obtain ⟨k, hk, rfl, rfl⟩ := hrel
        have hlk := it31_lt hla k
        by_cases hlt : k < b.size
        · have hst : it31 (k + 1) p = (it31 k p * 31) % 4294967296 := rfl
          obtain ⟨x, hx⟩ : ∃ x, it31 k p = x := ⟨_, rfl⟩
          rw [hx] at hlk hst ⊢
          have HST := Lib.hid hst
          clear hst hx
          go_wp2_with fail
          refine ⟨⟨k + 1, by omega, by go_num, ?_⟩, by simp [intOf]; omega⟩
          rw [HST.out]
          go_num
        · obtain rfl : k = b.size := by omega
          obtain ⟨x, hx⟩ : ∃ x, it31 b.size p = x := ⟨_, rfl⟩
          rw [hx] at hlk HN ⊢
          clear hx
          have HS2 := Lib.hid (strs_two w2 a b)
          have HB3 : Hid (Below w.heap.size w (w2.alloc (.cells #[.string a, .string b] 9))) := Lib.hid (HB2.out.alloc HB2.out.size _)
          go_wp2_with fail
          refine (hash_any _ [a, b] _ HS2.out (by simp [maxLen]) (fun t ht => by
            rcases List.mem_cons.1 ht with rfl | ht
            · exact HMA.out
            · rw [List.mem_singleton.1 ht]; exact HMB.out)).mono ?_
          rintro e w3 ⟨rfl, rfl⟩
          rw [HN.out]
          obtain ⟨w3, hw3⟩ : ∃ w3, w3 = w2.alloc (.cells #[.string a, .string b] 9) := ⟨_, rfl⟩
          rw [← hw3] at HB3 ⊢
          clear hw3
          have HS3 := Lib.hid (strs_one w3 b)
          have HB4 : Hid (Below w.heap.size w (w3.alloc (.cells #[.string b] 9))) := Lib.hid (HB3.out.alloc HB3.out.size _)
          obtain ⟨y, hy⟩ : ∃ y, (x + q) % 4294967296 = y := ⟨_, rfl⟩
          have hyl : y < 4294967296 := by omega
          have hyi : ((x : Int) + q) % 4294967296 = y := by omega
          rw [hy]
          clear hy
          go_wp2_with fail
          refine (hash_any _ [b] _ HS3.out (by simp [maxLen]) (fun t ht => by rw [List.mem_singleton.1 ht]; exact HMB.out)).mono ?_
          rintro e w4 ⟨rfl, rfl⟩
          rw [flatB_one, HQ.out]
          go_wp2_with fail
          go_ret
          exact ⟨by simp; omega, HB4.out⟩
end Go.Proofs.Ytkkcnkfglkhhoaa
