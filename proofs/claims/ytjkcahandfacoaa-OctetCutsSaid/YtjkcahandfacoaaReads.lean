/-
  The contracts of the document's own answers Read and Reads: just what octet's cutText and cutList say.
-/
import Derived.Test.YtjkcahandfacoaaRefs
namespace Go.Proofs.Ytjkcahandfacoaa
open Go.RowKit Go.Deep

theorem cutS_eq (s : ByteArray) (n : Nat) : cutS s n = if s.size < n then (⟨#[]⟩, ⟨#[]⟩, 3) else (s.extract 0 n, s.extract n s.size, 0) := by
  unfold cutS
  rw [if_neg (by omega)]
  by_cases h : s.size < n
  · rw [if_pos (by omega), if_pos h]
  · rw [if_neg (by omega), if_neg h]; rfl
theorem numS_eq (s : ByteArray) (n : Nat) (h1 : 1 ≤ n) (h7 : n ≤ 7) : numS s n = if s.size < n then (0, ⟨#[]⟩, 3) else (getN (s.data.toList.take n), s.extract n s.size, 0) := by
  rw [numS, if_pos ⟨by omega, by omega⟩, cutS_eq]
  by_cases h : s.size < n
  · rw [if_pos h, if_pos h]; simp
  · rw [if_neg h, if_neg h]
    obtain ⟨l, rfl⟩ := bytes_of s
    rw [if_pos rfl, extract_of]
    simp

theorem size_rest (s : ByteArray) (a : Nat) : (s.extract a s.size).size = s.size - a := by rw [ByteArray.size_extract]; omega
theorem extract_extract' (s : ByteArray) (a n : Nat) (h : a + n ≤ s.size) : (s.extract a s.size).extract 0 n = s.extract a (a + n) := by
  obtain ⟨l, rfl⟩ := bytes_of s
  rw [size_of] at *
  rw [extract_of, extract_of, extract_of, List.take_of_length_le (l := l) (Nat.le_refl _), List.drop_zero, List.take_drop, Nat.add_comm]
theorem extract_rest (s : ByteArray) (a n : Nat) (h : a + n ≤ s.size) : (s.extract a s.size).extract n (s.extract a s.size).size = s.extract (a + n) s.size := by
  rw [size_rest]
  obtain ⟨l, rfl⟩ := bytes_of s
  rw [size_of] at *
  rw [extract_of, extract_of, extract_of, List.take_of_length_le (l := l) (Nat.le_refl _), List.take_of_length_le (by rw [List.length_drop]; omega), List.drop_drop]

/-- What a text off s is: its parts. -/
theorem textS_eq (s : ByteArray) (most : Int) : textS s most =
    if s.size < 2 then (⟨#[]⟩, ⟨#[]⟩, 3) else
    if most < (getN (s.data.toList.take 2) : Int) then (⟨#[]⟩, ⟨#[]⟩, 6) else
    if s.size - 2 < getN (s.data.toList.take 2) then (⟨#[]⟩, ⟨#[]⟩, 3) else
    (s.extract 2 (2 + getN (s.data.toList.take 2)), s.extract (2 + getN (s.data.toList.take 2)) s.size, 0) := by
  have hn : numS s 2 = _ := numS_eq s 2 (by omega) (by omega)
  rw [textS, hn]
  by_cases h : s.size < 2
  · rw [if_pos h, if_pos h]; simp
  · rw [if_neg h, if_neg h]
    simp only [if_true]
    generalize getN (s.data.toList.take 2) = v
    by_cases h2 : most < (v : Int)
    · rw [if_pos h2, if_pos h2]
    · rw [if_neg h2, if_neg h2, cutS, if_neg (by omega), size_rest]
      by_cases h3 : s.size - 2 < v
      · rw [if_pos h3, if_pos (by omega)]
      · rw [if_neg h3, if_neg (by omega), Int.toNat_natCast, extract_extract' s 2 v (by omega), ← size_rest, extract_rest s 2 v (by omega)]

def readK (s rest : ByteArray) (x : Int) : Nat := if x = 0 then s.size - rest.size else 0

set_option maxHeartbeats 400000 in
theorem refRead_any (s : ByteArray) (most : Int) (w : World) (hs : s.size ≤ 100000) {t rest : ByteArray} {x : Int} (hc : textS s most = (t, rest, x)) : Calls Try.prog 27 #[.string s, .int .i64 most] w fun e w' => e = .returned (.tuple #[.string t, .int .i64 (readK s rest x), .int .i64 x]) ∧ w = w' := by
  rw [textS_eq] at hc
  by_cases h : s.size < 2
  · rw [if_pos h] at hc
    simp only [Prod.mk.injEq] at hc
    obtain ⟨rfl, rfl, rfl⟩ := hc
    go_enter Try.func27, Try.ntmps27
    go_wp2_with fail
    refine (get_short s 2 _ h).mono ?_
    rintro e w1 ⟨rfl, rfl⟩
    go_wp2_with fail
    go_ret3
    exact ⟨rfl, rfl⟩
  · rw [if_neg h] at hc
    have hb := getN_lt (s.data.toList.take 2)
    have hl : (s.data.toList.take 2).length = 2 := by
      rw [List.length_take]
      have : s.data.toList.length = s.size := rfl
      omega
    rw [hl] at hb
    obtain ⟨v, hv⟩ : ∃ v, v = getN (s.data.toList.take 2) := ⟨_, rfl⟩
    rw [← hv] at hc hb
    have HV := Lib.hid hv
    clear hv hl
    by_cases h2 : most < (v : Int)
    · rw [if_pos h2] at hc
      simp only [Prod.mk.injEq] at hc
      obtain ⟨rfl, rfl, rfl⟩ := hc
      go_enter Try.func27, Try.ntmps27
      go_wp2_with fail
      refine (get_any s 2 _ (by omega) (by omega)).mono ?_
      rintro e w1 ⟨rfl, rfl⟩
      rw [← HV.out]
      go_wp2_with fail
      go_ret3
      exact ⟨rfl, rfl⟩
    · rw [if_neg h2] at hc
      by_cases h3 : s.size - 2 < v
      · rw [if_pos h3] at hc
        simp only [Prod.mk.injEq] at hc
        obtain ⟨rfl, rfl, rfl⟩ := hc
        go_enter Try.func27, Try.ntmps27
        go_wp2_with fail
        refine (get_any s 2 _ (by omega) (by omega)).mono ?_
        rintro e w1 ⟨rfl, rfl⟩
        rw [← HV.out]
        go_wp2_with fail
        go_ret3
        exact ⟨rfl, rfl⟩
      · rw [if_neg h3] at hc
        simp only [Prod.mk.injEq] at hc
        obtain ⟨rfl, rfl, rfl⟩ := hc
        have HK : Hid (readK s (s.extract (2 + v) s.size) 0 = 2 + v) := Lib.hid (by rw [readK, if_pos rfl, size_rest]; omega)
        have h4 : v + 2 ≤ s.size := by omega
        go_enter Try.func27, Try.ntmps27
        go_wp2_with fail
        refine (get_any s 2 _ (by omega) (by omega)).mono ?_
        rintro e w1 ⟨rfl, rfl⟩
        rw [← HV.out]
        go_wp2_with fail
        go_ret3
        exact ⟨by rw [HK.out]; rfl, rfl⟩

theorem textS_rest {s t r : ByteArray} {a : Nat} {most : Int} (ha : a ≤ s.size) (h : textS (s.extract a s.size) most = (t, r, 0)) : r = s.extract (a + readK (s.extract a s.size) r 0) s.size ∧ a + readK (s.extract a s.size) r 0 ≤ s.size := by
  rw [textS_eq] at h
  generalize hv : getN ((s.extract a s.size).data.toList.take 2) = v at h
  clear hv
  split at h
  · simp at h
  · split at h
    · simp at h
    · split at h
      · simp at h
      · rename_i h1 h2 h3
        simp only [Prod.mk.injEq] at h
        obtain ⟨_, rfl, _⟩ := h
        rw [size_rest] at h1 h3
        have hk : readK (s.extract a s.size) ((s.extract a s.size).extract (2 + v) (s.extract a s.size).size) 0 = 2 + v := by
          rw [readK, if_pos rfl, extract_rest s a (2 + v) (by omega), size_rest, size_rest]; omega
        rw [hk]
        exact ⟨extract_rest s a (2 + v) (by omega), by omega⟩

theorem info9 : (Try.prog.info? 9).map (fun i => (i.zero, i.size, i.bytes)) = some (some (.string ⟨#[]⟩), 1, 16) := by kernel_rfl

def ReadsPost (w : World) (s : ByteArray) (ts : List ByteArray) (rest : ByteArray) (x : Int) (e : Ending) (w' : World) : Prop :=
  ∃ v, e = .returned (.tuple #[v, .int .i64 (readK s rest x), .int .i64 x]) ∧ Strs w' w.heap.size v ts ∧ Below w.heap.size w w'

theorem strs_own {w : World} {B : Nat} {v : Value} {ts : List ByteArray} (h : w.ownsRow B 9 1 v ts.length (ts.map Value.string)) : Strs w B v ts := by
  rcases h.2 with ⟨rfl, h0⟩ | ⟨g, cap, cur, rfl, _⟩
  · have : ts = [] := List.eq_nil_of_length_eq_zero h0
    subst this
    exact ⟨none, 0, rfl, .inl rfl⟩
  · refine ⟨some ⟨g, 0, none⟩, cap, rfl, .inr ⟨g, 0, rfl, (h.lt g rfl).1, fun i hi => ?_⟩⟩
    have := h.cells rfl i (.string (ts.getD i ⟨#[]⟩)) (by simp [List.getElem?_map, List.getElem?_eq_getElem hi, List.getD_eq_getElem?_getD])
    rwa [add_none] at this

set_option maxHeartbeats 1000000 in
theorem refReads_any (s : ByteArray) (many most : Int) (w : World) (hs : s.size ≤ 100000) {ts : List ByteArray} {rest : ByteArray} {x : Int} (hc : listS s many most = (ts, rest, x)) : Calls Try.prog 28 #[.string s, .int .i64 many, .int .i64 most] w (ReadsPost w s ts rest x) := by
  have hn : numS s 1 = _ := numS_eq s 1 (by omega) (by omega)
  rw [listS, hn] at hc
  clear hn
  by_cases h : s.size < 1
  · rw [if_pos h] at hc
    simp only [show ¬ ((3 : Int) = 0) by decide, if_false, Prod.mk.injEq] at hc
    obtain ⟨rfl, rfl, rfl⟩ := hc
    go_enter Try.func28, Try.ntmps28
    go_wp2_with fail
    refine (get_short s 1 _ h).mono ?_
    rintro e w1 ⟨rfl, rfl⟩
    go_wp2_with fail
    go_ret3
    exact ⟨_, rfl, ⟨none, 0, rfl, .inl rfl⟩, Below.refl _ _⟩
  · rw [if_neg h] at hc
    simp only [if_true] at hc
    have hb := getN_lt (s.data.toList.take 1)
    have hl : (s.data.toList.take 1).length = 1 := by
      rw [List.length_take]
      have : s.data.toList.length = s.size := rfl
      omega
    rw [hl] at hb
    obtain ⟨v, hv⟩ : ∃ v, v = getN (s.data.toList.take 1) := ⟨_, rfl⟩
    rw [← hv] at hc hb
    have HV := Lib.hid hv
    clear hv hl
    by_cases h2 : many < (v : Int)
    · rw [if_pos h2] at hc
      simp only [Prod.mk.injEq] at hc
      obtain ⟨rfl, rfl, rfl⟩ := hc
      go_enter Try.func28, Try.ntmps28
      go_wp2_with fail
      refine (get_any s 1 _ (by omega) (by omega)).mono ?_
      rintro e w1 ⟨rfl, rfl⟩
      rw [← HV.out]
      go_wp2_with fail
      go_ret3
      exact ⟨_, rfl, ⟨none, 0, rfl, .inl rfl⟩, Below.refl _ _⟩
    · rw [if_neg h2] at hc
      obtain ⟨i0, hi, hz0, hz1, hz2⟩ := info_parts info9
      have HC := Lib.hid hc
      clear hc
      go_enter Try.func28, Try.ntmps28
      go_wp2_with fail
      refine (get_any s 1 _ (by omega) (by omega)).mono ?_
      rintro e w1 ⟨rfl, rfl⟩
      rw [← HV.out]
      go_wp2_with fail
      have HOWN := Lib.hid (World.ownsRow_made (e := 9) (size := 1) w #[] 0 (Nat.le_refl _) (by unfold maxLen; omega) rfl)
      have HB0 := Lib.hid ((Below.refl w.heap.size w).alloc (Nat.le_refl _) (.cells #[] 9))
      go_loopw [10, 11, 12] (fun o p i wr => ∃ (acc : List ByteArray) (a : Nat), acc.length ≤ v ∧ a ≤ s.size ∧ i = .int .i64 acc.length ∧ p = .int .i64 a ∧ textsS most (v - acc.length) (s.extract a s.size) acc = (ts, rest, x) ∧ wr.ownsRow w.heap.size 9 1 o acc.length (acc.map Value.string) ∧ Below w.heap.size w wr) (fun _ _ i _ => v - (intOf i).toNat)
      case atStart => exact ⟨[], 1, Nat.zero_le _, by omega, rfl, rfl, HC.out, HOWN.out, HB0.out⟩
      case round =>
        obtain ⟨acc, a, hk, ha, rfl, rfl, hres, hown, hbel⟩ := hrel
        have HOWN' := Lib.hid hown
        have HBEL' := Lib.hid hbel
        clear hown hbel
        by_cases hlt : acc.length < v
        · obtain ⟨m, hm⟩ : ∃ m, v - acc.length = m + 1 := ⟨v - acc.length - 1, by omega⟩
          rw [hm] at hres
          simp only [textsS] at hres
          obtain ⟨t, q, z, hz⟩ : ∃ t q z, textS (s.extract a s.size) most = (t, q, z) := ⟨_, _, _, rfl⟩
          rw [hz] at hres
          have HZ := Lib.hid hz
          have HM := Lib.hid hm
          have hsr : (s.extract a s.size).size ≤ 100000 := by rw [size_rest]; omega
          have HSR := Lib.hid hsr
          clear hz hm hsr
          by_cases hz0 : z = 0
          · subst hz0
            simp only [if_true] at hres
            have HRES := Lib.hid hres
            obtain ⟨hq, hq2⟩ := textS_rest ha HZ.out
            obtain ⟨K, hK⟩ : ∃ K, K = readK (s.extract a s.size) q 0 := ⟨_, rfl⟩
            rw [← hK] at hq hq2
            have HQ := Lib.hid hq
            have HK := Lib.hid hK
            clear hres hq hK
            go_wp2_with fail
            refine (refRead_any _ _ _ HSR.out HZ.out).mono ?_
            rintro e w1 ⟨rfl, rfl⟩
            rw [← HK.out]
            go_wp2_with (at_builtin; go_must (refine wpList_append_own _ rfl _ _ 34 rfl w.heap.size 9 i0 (.string ⟨#[]⟩) 1 16 Try.underlying34 hi hz0 hz1 hz2 rfl (by decide) _ _ _ rfl (HOWN'.out.alloc _) ⟨wr.heap.size, 0, none⟩ 1 1 [.string t] rfl rfl (cell_one_new _ _ _) ?c2 ?c3 ?c4 ?c5 ?_))
            case c2 => intro u hu; simp at hu; subst hu; rfl
            case c3 => unfold maxLen; omega
            case c4 => omega
            case c5 => have := HBEL'.out.size; simp; omega
            intro v' w1 hown' hgrow _
            have HOWN2 : Hid (w1.ownsRow w.heap.size 9 1 v' (acc ++ [t]).length ((acc ++ [t]).map Value.string)) := Lib.hid (by simpa using hown')
            have HBEL2 := Lib.hid ((HBEL'.out.alloc (by have := HBEL'.out.size; omega) (.cells #[.string t] 9)).grown hgrow (by have := HBEL'.out.size; simp; omega) (fun k hk => (HOWN'.out.lt k hk).1))
            clear hown' hgrow
            go_wp2_with fail
            refine ⟨⟨acc ++ [t], a + K, by simp; omega, hq2, by simp, by go_num, ?_, HOWN2.out, HBEL2.out⟩, by simp [intOf]; omega⟩
            rw [← HRES.out, ← HQ.out]
            congr 1
            have := HM.out
            simp; omega
          · rw [if_neg hz0] at hres
            simp only [Prod.mk.injEq] at hres
            obtain ⟨rfl, rfl, rfl⟩ := hres
            have hb : (z == 0) = false := by simpa using hz0
            have HK0 : Hid (readK s ⟨#[]⟩ z = 0) := Lib.hid (by rw [readK, if_neg hz0])
            clear hz0
            go_wp2_with fail
            refine (refRead_any _ _ _ HSR.out HZ.out).mono ?_
            rintro e w1 ⟨rfl, rfl⟩
            go_wp2_with fail
            go_ret3
            exact ⟨_, by rw [HK0.out]; rfl, ⟨none, 0, rfl, .inl rfl⟩, HBEL'.out⟩
        · have hl : acc.length = v := by omega
          rw [hl, Nat.sub_self] at hres
          simp only [textsS, Prod.mk.injEq] at hres
          obtain ⟨rfl, rfl, rfl⟩ := hres
          have HK : Hid (a = readK s (s.extract a s.size) 0) := Lib.hid (by rw [readK, if_pos rfl, size_rest]; omega)
          clear hl
          go_wp2_with fail
          go_ret3
          exact ⟨_, by rw [← HK.out]; rfl, strs_own HOWN'.out, HBEL'.out⟩
end Go.Proofs.Ytjkcahandfacoaa
