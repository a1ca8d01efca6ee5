/-
  The contracts of the document's own answers: Text, List, Read, Reads, Same.
-/
import Derived.Test.YtgaddjmmpnaedaaWNums
namespace Go.Proofs.Ytgaddjmmpnaedaa.Oc
open Go.RowKit Go.Deep

theorem bytes_of (s : ByteArray) : ∃ l : List UInt8, s = ⟨l.toArray⟩ := ⟨s.data.toList, by simp⟩
theorem size_of (l : List UInt8) : (⟨l.toArray⟩ : ByteArray).size = l.length := by simp [ByteArray.size]

/-- A text's bytes; a list's. -/
def txtB (s : ByteArray) : List UInt8 := numB 2 s.size ++ s.data.toList
def listB (l : List ByteArray) : List UInt8 := numB 1 l.length ++ l.flatMap txtB
theorem txtB_length (s : ByteArray) : (txtB s).length = 2 + s.size := by
  unfold txtB; rw [List.length_append, numB_length]; rfl

theorem Strs.cellAt {w : World} {base : Nat} {a : Option Addr} {len cap : Nat} {ts : List ByteArray} (h : Strs w base (.slice a len cap) ts) {i : Nat} (hi : i < ts.length) : ∃ b o, a = some ⟨b, o, none⟩ ∧ w.cell? ⟨b, o + i, none⟩ = some (.string (ts.getD i ⟨#[]⟩)) := by
  obtain ⟨a', cap', e, h⟩ := h
  cases e
  rcases h with h | ⟨b, o, rfl, _, h⟩
  · subst h; simp at hi
  · exact ⟨b, o, rfl, h i hi⟩
theorem Strs.form {w : World} {base : Nat} {v : Value} {ts : List ByteArray} (h : Strs w base v ts) : ∃ a cap, v = .slice a ts.length cap := by
  obtain ⟨a', cap', e, _⟩ := h
  exact ⟨a', cap', e⟩
theorem Strs.below {w w' : World} {v : Value} {ts : List ByteArray} {B base : Nat} (h : Strs w base v ts) (hb : Below B w w') (hB : w.heap.size ≤ B) : Strs w' base v ts := by
  obtain ⟨a, cap, rfl, h⟩ := h
  refine ⟨a, cap, rfl, ?_⟩
  rcases h with h | ⟨b, o, rfl, hb0, h⟩
  · exact .inl h
  · refine .inr ⟨b, o, rfl, hb0, fun i hi => ?_⟩
    have hlt := World.block_lt_of_cell? _ _ (h i hi)
    exact (hb.cell (p := ⟨b, o + i, none⟩) (Nat.lt_of_lt_of_le hlt hB)).trans (h i hi)

theorem flat_snoc (ts : List ByteArray) (k : Nat) (h : k < ts.length) : (ts.take (k + 1)).flatMap txtB = (ts.take k).flatMap txtB ++ txtB (ts.getD k ⟨#[]⟩) := by
  rw [List.take_succ_eq_append_getElem h, List.flatMap_append, List.flatMap_singleton, List.getD_eq_getElem?_getD, List.getElem?_eq_getElem h]
  rfl
theorem flat_length (ts : List ByteArray) (hs : ∀ t ∈ ts, t.size ≤ 100000) : (ts.flatMap txtB).length ≤ 100002 * ts.length := by
  induction ts with
  | nil => simp
  | cons t ts ih =>
    rw [List.flatMap_cons, List.length_append, txtB_length, List.length_cons]
    have := ih fun x hx => hs x (List.mem_cons_of_mem _ hx)
    have := hs t List.mem_cons_self
    omega

theorem drewN_add (w : World) (d k : Nat) : (w.drewN d).drewN k = w.drewN (d + k) := by simp [World.drewN, Nat.add_assoc]

theorem take_snoc' (ts : List ByteArray) {k : Nat} (h : k < ts.length) : ts.take (k + 1) = ts.take k ++ [ts.getD k ⟨#[]⟩] := by
  rw [List.take_succ_eq_append_getElem h, List.getD_eq_getElem?_getD, List.getElem?_eq_getElem h]
  rfl
theorem ba_toList (s : ByteArray) : (⟨s.toList.toArray⟩ : ByteArray) = s := by
  rw [ByteArray.toList_eq]

set_option maxHeartbeats 400000 in
theorem same_any (v u : Value) (ts us : List ByteArray) (w : World) (hv : Strs w 0 v ts) (hu : Strs w 0 u us) (hl : ts.length ≤ 1000000) : Calls Try.prog 15 #[v, u] w fun e w' => e = .returned (.bool (decide (ts = us))) ∧ ∃ k, w' = w.drewN k := by
  have HV := Lib.hid hv
  have HU := Lib.hid hu
  obtain ⟨a, cap, rfl⟩ := hv.form
  obtain ⟨c, cap2, rfl⟩ := hu.form
  clear hv hu
  by_cases hlen : ts.length = us.length
  · have hb : ((ts.length : Int) == us.length) = true := by simp [hlen]
    have hnb : ((ts.length : Int) != us.length) = false := by simp [hlen]
    have HLEN := Lib.hid hlen
    clear hlen
    go_enter Try.func15, Try.ntmps15
    go_wp2_with fail
    go_loopw [5] (fun i wr => ∃ k : Nat, k ≤ ts.length ∧ i = .int .i64 k ∧ ts.take k = us.take k ∧ ∃ d, wr = w.drewN d) (fun i _ => ts.length - (intOf i).toNat)
    case atStart => exact ⟨0, Nat.zero_le _, rfl, rfl, 0, rfl⟩
    case round =>
      obtain ⟨k, hk, rfl, heq, d, rfl⟩ := hrel
      have HEQ := Lib.hid heq
      clear heq
      by_cases hlt : k < ts.length
      · obtain ⟨b, o, rfl, hck⟩ := HV.out.cellAt hlt
        obtain ⟨b2, o2, rfl, hck2⟩ := HU.out.cellAt (i := k) (by rw [← HLEN.out]; exact hlt)
        have hlt2 : k < us.length := by rw [← HLEN.out]; exact hlt
        obtain ⟨t, ht⟩ : ∃ t, t = ts.getD k ⟨#[]⟩ := ⟨_, rfl⟩
        obtain ⟨u, hu⟩ : ∃ t, t = us.getD k ⟨#[]⟩ := ⟨_, rfl⟩
        rw [← ht] at hck
        rw [← hu] at hck2
        have HT := Lib.hid ht
        have HUU := Lib.hid hu
        clear ht hu
        by_cases htu : t = u
        · subst htu
          go_wp2_with fail
          go_quiet (fail)
          go_wp2_with fail
          refine ⟨⟨k + 1, by omega, by go_num, ?_, _, rfl⟩, by simp [intOf]; omega⟩
          rw [take_snoc' ts hlt, take_snoc' us hlt2, HEQ.out, ← HT.out, ← HUU.out]
        · have hne : t.toList ≠ u.toList := fun h => htu (by rw [← ba_toList t, h, ba_toList u])
          have HNE : Hid (¬ ts = us) := Lib.hid fun h => htu (by rw [HT.out, HUU.out, h])
          have h1 : (t.toList == u.toList) = false := by simpa using hne
          have h2 : (t.toList != u.toList) = true := by simpa using hne
          clear htu hne
          go_wp2_with fail
          go_quiet (fail)
          go_wp2_with fail
          go_ret
          exact ⟨by rw [decide_eq_false HNE.out]; rfl, d + _, drewN_add _ _ _⟩
      · obtain rfl : k = ts.length := by omega
        have h : ts = us := by
          have h1 := HEQ.out
          rwa [List.take_of_length_le (Nat.le_refl _), List.take_of_length_le (by rw [HLEN.out]; exact Nat.le_refl _)] at h1
        have HD := Lib.hid (decide_eq_true h)
        clear h
        go_wp2_with fail
        go_ret
        exact ⟨by rw [HD.out]; rfl, _, rfl⟩
  · have HD := Lib.hid (decide_eq_false (show ¬ ts = us from fun h => hlen (by rw [h])))
    have hb : ((ts.length : Int) == us.length) = false := by simpa using (show ¬ (ts.length : Int) = us.length by omega)
    have hnb : ((ts.length : Int) != us.length) = true := by simpa using (show ¬ (ts.length : Int) = us.length by omega)
    clear hlen
    go_enter Try.func15, Try.ntmps15
    go_wp2_with fail
    go_ret
    exact ⟨by rw [HD.out]; rfl, 0, rfl⟩
end Go.Proofs.Ytgaddjmmpnaedaa.Oc
