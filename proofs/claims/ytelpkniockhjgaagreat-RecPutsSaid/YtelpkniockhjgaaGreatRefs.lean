/-
  The contracts of the document's own answers: Text, List, Read, Reads, Same.
-/
import Derived.Test.YtelpkniockhjgaaGreatWNums
namespace Go.Proofs.YtelpkniockhjgaaGreat.Oc
open Go.RowKit Go.Deep

theorem bytes_of (s : ByteArray) : ∃ l : List UInt8, s = ⟨l.toArray⟩ := ⟨s.data.toList, by simp⟩
theorem size_of (l : List UInt8) : (⟨l.toArray⟩ : ByteArray).size = l.length := by simp [ByteArray.size]

/-- A text's bytes; a list's. -/
def txtB (s : ByteArray) : List UInt8 := numB 2 s.size ++ s.data.toList
def listB (l : List ByteArray) : List UInt8 := numB 1 l.length ++ l.flatMap txtB
theorem txtB_length (s : ByteArray) : (txtB s).length = 2 + s.size := by
  unfold txtB; rw [List.length_append, numB_length]; rfl

theorem refText_any (s : ByteArray) (w : World) (hs : s.size ≤ 100000000) : Calls Tryz.prog 25 #[.string s] w fun e w' => e = .returned (.string ⟨(txtB s).toArray⟩) ∧ Below w.heap.size w w' := by
  obtain ⟨l, rfl⟩ := bytes_of s
  obtain ⟨m, hm⟩ : ∃ m, m = (⟨l.toArray⟩ : ByteArray).size := ⟨_, rfl⟩
  have hl : l.length = m := by rw [hm, size_of]
  have HL := Lib.hid hl
  rw [← hm] at hs
  have HM := Lib.hid hm
  obtain ⟨M, hM⟩ : ∃ M, M = numB 2 m := ⟨_, rfl⟩
  have hMl : M.length = 2 := by rw [hM, numB_length]
  have hMl2 : M.length ≤ 2 := by omega
  have hll : l.length ≤ 100000000 := by omega
  have HMM := Lib.hid hM
  clear hl hm hM hMl
  go_enter Tryz.func25, Tryz.ntmps25
  go_wp2_with fail
  refine (refNum_any 2 l.length _ (by omega) (by omega)).mono ?_
  rintro e w3 ⟨rfl, hb⟩
  rw [HL.out, ← HMM.out]
  have HB := Lib.hid hb
  clear hb
  go_wp2_with fail
  go_ret
  refine ⟨?_, HB.out⟩
  rw [txtB, ← HM.out, ← HMM.out, ← append_toArray]
  rfl

theorem Strs.cellAt {w : World} {base : Nat} {a : Option Addr} {len cap : Nat} {ts : List ByteArray} (h : Strs w base (.slice a len cap) ts) {i : Nat} (hi : i < ts.length) : ∃ b o, a = some ⟨b, o, none⟩ ∧ w.cell? ⟨b, o + i, none⟩ = some (.string (ts.getD i ⟨#[]⟩)) := by
  obtain ⟨a', cap', e, h⟩ := h
  cases e
  rcases h with h | ⟨b, o, rfl, _, h⟩
  · subst h; simp at hi
  · exact ⟨b, o, rfl, h i hi⟩
theorem Strs.form {w : World} {base : Nat} {v : Value} {ts : List ByteArray} (h : Strs w base v ts) : ∃ a cap, v = .slice a ts.length cap := by
  obtain ⟨a', cap', e, _⟩ := h
  exact ⟨a', cap', e⟩
theorem Strs.below {w w' : World} {v : Value} {ts : List ByteArray} {B base : Nat} (h : Strs w base v ts) (hb : Below B w w') (hB : w.heap.size ≤ B) : Strs w' base v ts := by
  obtain ⟨a, cap, rfl, h⟩ := h
  refine ⟨a, cap, rfl, ?_⟩
  rcases h with h | ⟨b, o, rfl, hb0, h⟩
  · exact .inl h
  · refine .inr ⟨b, o, rfl, hb0, fun i hi => ?_⟩
    have hlt := World.block_lt_of_cell? _ _ (h i hi)
    exact (hb.cell (p := ⟨b, o + i, none⟩) (Nat.lt_of_lt_of_le hlt hB)).trans (h i hi)

theorem flat_snoc (ts : List ByteArray) (k : Nat) (h : k < ts.length) : (ts.take (k + 1)).flatMap txtB = (ts.take k).flatMap txtB ++ txtB (ts.getD k ⟨#[]⟩) := by
  rw [List.take_succ_eq_append_getElem h, List.flatMap_append, List.flatMap_singleton, List.getD_eq_getElem?_getD, List.getElem?_eq_getElem h]
  rfl
theorem flat_length (ts : List ByteArray) (hs : ∀ t ∈ ts, t.size ≤ 100000) : (ts.flatMap txtB).length ≤ 100002 * ts.length := by
  induction ts with
  | nil => simp
  | cons t ts ih =>
    rw [List.flatMap_cons, List.length_append, txtB_length, List.length_cons]
    have := ih fun x hx => hs x (List.mem_cons_of_mem _ hx)
    have := hs t List.mem_cons_self
    omega

set_option maxHeartbeats 400000 in
theorem refList_any (v : Value) (ts : List ByteArray) (w : World) (hv : Strs w 0 v ts) (hl : ts.length ≤ 1000) (hs : ∀ t ∈ ts, t.size ≤ 100000) : Calls Tryz.prog 26 #[v] w fun e w' => e = .returned (.string ⟨(listB ts).toArray⟩) ∧ Below w.heap.size w w' := by
  have HV := Lib.hid hv
  have HS := Lib.hid hs
  obtain ⟨a, cap, rfl⟩ := hv.form
  clear hv hs
  go_enter Tryz.func26, Tryz.ntmps26
  go_wp2_with fail
  refine (refNum_any 1 ts.length _ (by omega) (by omega)).mono ?_
  rintro e w1 ⟨rfl, hb⟩
  have HB := Lib.hid hb
  clear hb
  obtain ⟨M, hM⟩ : ∃ M, M = numB 1 ts.length := ⟨_, rfl⟩
  rw [← hM]
  have HM := Lib.hid hM
  clear hM
  go_wp2_with fail
  go_loopw [3, 4] (fun s i wr => ∃ k : Nat, k ≤ ts.length ∧ i = .int .i64 k ∧ s = .string ⟨(M ++ (ts.take k).flatMap txtB).toArray⟩ ∧ Below w.heap.size w wr) (fun _ i _ => ts.length - (intOf i).toNat)
  case atStart => exact ⟨0, Nat.zero_le _, rfl, by simp, HB.out⟩
  case round =>
    obtain ⟨k, hk, rfl, rfl, hb⟩ := hrel
    have HBR := Lib.hid hb
    clear hb
    obtain ⟨L, hL⟩ : ∃ L, L = M ++ (ts.take k).flatMap txtB := ⟨_, rfl⟩
    rw [← hL]
    by_cases hlt : k < ts.length
    · obtain ⟨b, o, rfl, hck⟩ := (HV.out.below HBR.out (Nat.le_refl _)).cellAt hlt
      have hsz := HS.out (ts.getD k ⟨#[]⟩) (by simp [List.getD_eq_getElem?_getD, List.getElem?_eq_getElem hlt])
      have hLl : L.length ≤ 1000000000 := by
        rw [hL, List.length_append]
        have := flat_length (ts.take k) fun t ht => HS.out t (List.mem_of_mem_take ht)
        have e : (ts.take k).length = k := by rw [List.length_take]; omega
        rw [e] at this
        have : M.length = 1 := by rw [HM.out, numB_length]
        omega
      have hsn := flat_snoc ts k hlt
      obtain ⟨t, ht⟩ : ∃ t, t = ts.getD k ⟨#[]⟩ := ⟨_, rfl⟩
      rw [← ht] at hck hsz hsn
      obtain ⟨X, hX⟩ : ∃ X, X = txtB t := ⟨_, rfl⟩
      have hXl : X.length ≤ 100002 := by rw [hX, txtB_length]; omega
      rw [← hX] at hsn
      have HSN := Lib.hid hsn
      have HL := Lib.hid hL
      have HX := Lib.hid hX
      clear hL ht hX hsn
      go_wp2_with fail
      refine (refText_any t _ (by omega)).mono ?_
      rintro e w3 ⟨rfl, hb⟩
      rw [← HX.out]
      have HB3 := Lib.hid (HBR.out.trans (hb.mono HBR.out.size))
      clear hb
      go_wp2_with fail
      refine ⟨⟨k + 1, by omega, by go_num, ?_, HB3.out⟩, by simp [intOf]; omega⟩
      rw [HSN.out, append_toArray, HL.out, List.append_assoc]
    · obtain rfl : k = ts.length := by omega
      have HL := Lib.hid hL
      clear hL
      go_wp2_with fail
      go_ret
      refine ⟨?_, HBR.out⟩
      have h := HL.out
      rw [List.take_of_length_le (Nat.le_refl _), HM.out] at h
      rw [listB, ← h]
      rfl

theorem drewN_add (w : World) (d k : Nat) : (w.drewN d).drewN k = w.drewN (d + k) := by simp [World.drewN, Nat.add_assoc]

theorem take_snoc' (ts : List ByteArray) {k : Nat} (h : k < ts.length) : ts.take (k + 1) = ts.take k ++ [ts.getD k ⟨#[]⟩] := by
  rw [List.take_succ_eq_append_getElem h, List.getD_eq_getElem?_getD, List.getElem?_eq_getElem h]
  rfl
theorem ba_toList (s : ByteArray) : (⟨s.toList.toArray⟩ : ByteArray) = s := by
  rw [ByteArray.toList_eq]

set_option maxHeartbeats 400000 in
theorem same_any (v u : Value) (ts us : List ByteArray) (w : World) (hv : Strs w 0 v ts) (hu : Strs w 0 u us) (hl : ts.length ≤ 1000000) : Calls Tryz.prog 33 #[v, u] w fun e w' => e = .returned (.bool (decide (ts = us))) ∧ ∃ k, w' = w.drewN k := by
  have HV := Lib.hid hv
  have HU := Lib.hid hu
  obtain ⟨a, cap, rfl⟩ := hv.form
  obtain ⟨c, cap2, rfl⟩ := hu.form
  clear hv hu
  by_cases hlen : ts.length = us.length
  · have hb : ((ts.length : Int) == us.length) = true := by simp [hlen]
    have hnb : ((ts.length : Int) != us.length) = false := by simp [hlen]
    have HLEN := Lib.hid hlen
    clear hlen
    go_enter Tryz.func33, Tryz.ntmps33
    go_wp2_with fail
    go_loopw [5] (fun i wr => ∃ k : Nat, k ≤ ts.length ∧ i = .int .i64 k ∧ ts.take k = us.take k ∧ ∃ d, wr = w.drewN d) (fun i _ => ts.length - (intOf i).toNat)
    case atStart => exact ⟨0, Nat.zero_le _, rfl, rfl, 0, rfl⟩
    case round =>
      obtain ⟨k, hk, rfl, heq, d, rfl⟩ := hrel
      have HEQ := Lib.hid heq
      clear heq
      by_cases hlt : k < ts.length
      · obtain ⟨b, o, rfl, hck⟩ := HV.out.cellAt hlt
        obtain ⟨b2, o2, rfl, hck2⟩ := HU.out.cellAt (i := k) (by rw [← HLEN.out]; exact hlt)
        have hlt2 : k < us.length := by rw [← HLEN.out]; exact hlt
        obtain ⟨t, ht⟩ : ∃ t, t = ts.getD k ⟨#[]⟩ := ⟨_, rfl⟩
        obtain ⟨u, hu⟩ : ∃ t, t = us.getD k ⟨#[]⟩ := ⟨_, rfl⟩
        rw [← ht] at hck
        rw [← hu] at hck2
        have HT := Lib.hid ht
        have HUU := Lib.hid hu
        clear ht hu
        by_cases htu : t = u
        · subst htu
          go_wp2_with fail
          go_quiet (fail)
          go_wp2_with fail
          refine ⟨⟨k + 1, by omega, by go_num, ?_, _, rfl⟩, by simp [intOf]; omega⟩
          rw [take_snoc' ts hlt, take_snoc' us hlt2, HEQ.out, ← HT.out, ← HUU.out]
        · have hne : t.toList ≠ u.toList := fun h => htu (by rw [← ba_toList t, h, ba_toList u])
          have HNE : Hid (¬ ts = us) := Lib.hid fun h => htu (by rw [HT.out, HUU.out, h])
          have h1 : (t.toList == u.toList) = false := by simpa using hne
          have h2 : (t.toList != u.toList) = true := by simpa using hne
          clear htu hne
          go_wp2_with fail
          go_quiet (fail)
          go_wp2_with fail
          go_ret
          exact ⟨by rw [decide_eq_false HNE.out]; rfl, d + _, drewN_add _ _ _⟩
      · obtain rfl : k = ts.length := by omega
        have h : ts = us := by
          have h1 := HEQ.out
          rwa [List.take_of_length_le (Nat.le_refl _), List.take_of_length_le (by rw [HLEN.out]; exact Nat.le_refl _)] at h1
        have HD := Lib.hid (decide_eq_true h)
        clear h
        go_wp2_with fail
        go_ret
        exact ⟨by rw [HD.out]; rfl, _, rfl⟩
  · have HD := Lib.hid (decide_eq_false (show ¬ ts = us from fun h => hlen (by rw [h])))
    have hb : ((ts.length : Int) == us.length) = false := by simpa using (show ¬ (ts.length : Int) = us.length by omega)
    have hnb : ((ts.length : Int) != us.length) = true := by simpa using (show ¬ (ts.length : Int) = us.length by omega)
    clear hlen
    go_enter Tryz.func33, Tryz.ntmps33
    go_wp2_with fail
    go_ret
    exact ⟨by rw [HD.out]; rfl, 0, rfl⟩
end Go.Proofs.YtelpkniockhjgaaGreat.Oc
