/-
  Records in memory; what asks of a list of numbers; lists compared.
-/
import Derived.Test.YtelpkniockhjgaaGreatFlat
import Derived.Test.YtelpkniockhjgaaGreatNamT
import Derived.Test.YtelpkniockhjgaaGreatNamA
import Derived.Test.YtelpkniockhjgaaGreatApp
import Derived.Test.YtelpkniockhjgaaGreatSealN
namespace Go.Proofs.YtelpkniockhjgaaGreat
open Go.RowKit Go.Deep
set_option linter.unusedVariables false
set_option linter.unusedSimpArgs false

theorem bcell {W w1 : World} {B : Nat} (hb : Below B W w1) : (∀ b o, b < B → w1.cell? ⟨b, o, none⟩ = W.cell? ⟨b, o, none⟩) ∧ (∀ b o, b < B → w1.frozen? ⟨b, o, none⟩ = W.frozen? ⟨b, o, none⟩) :=
  ⟨fun b o h => hb.cell (p := ⟨b, o, none⟩) h, fun b o h => hb.frozen (p := ⟨b, o, none⟩) h⟩

theorem cell_new (w : World) (cs : Array Value) (T : TypeId) (i : Nat) (v : Value) (h : cs[i]? = some v) : (w.alloc (.cells cs T)).cell? ⟨w.heap.size, i, none⟩ = some v := by
  unfold World.cell?
  simp only [heap_alloc_new]
  exact h
/-- A text is in a list. -/
def memB (s : ByteArray) (ts : List ByteArray) : Bool := ts.any fun t => decide (t = s)
theorem memB_iff {s : ByteArray} {ts : List ByteArray} : memB s ts = true ↔ s ∈ ts := by
  unfold memB
  rw [List.any_eq_true]
  constructor
  · rintro ⟨t, ht, h⟩
    rw [← of_decide_eq_true h]
    exact ht
  · exact fun h => ⟨s, h, decide_eq_true rfl⟩
theorem memB_no {s : ByteArray} {ts : List ByteArray} (h : ¬ s ∈ ts) : memB s ts = false := by
  rw [← Bool.not_eq_true, memB_iff]
  exact h
/-- A record, but for where its keys lie. -/
structure MsgM where
  kind : Int
  queue : Int
  due : Int
  retry : Int
  ref : Int
  born : Int
  topic : ByteArray
  tag : ByteArray
  body : ByteArray
  keys : List ByteArray
def MsgM.cells (m : MsgM) (vk : Value) : Array Value := #[.int .i64 m.kind, .int .i64 m.queue, .int .i64 m.due, .int .i64 m.retry, .int .i64 m.ref, .int .i64 m.born, .string m.topic, .string m.tag, .string m.body, vk]
def MsgM.val (m : MsgM) (vk : Value) : Value := .agg (m.cells vk)

/-- All of a list of numbers are from a to b. -/
def allIn (a b : Int) (zs : List Int) : Bool := zs.all fun x => decide (a ≤ x) && decide (x ≤ b)
theorem allIn_yes {a b : Int} {zs : List Int} (h : ∀ j, j < zs.length → a ≤ zs.getD j 0 ∧ zs.getD j 0 ≤ b) : allIn a b zs = true := by
  unfold allIn
  rw [List.all_eq_true]
  intro x hx
  obtain ⟨j, hj, rfl⟩ := List.mem_iff_getElem.1 hx
  have := h j hj
  rw [List.getD_eq_getElem?_getD, List.getElem?_eq_getElem hj] at this
  simpa using this
theorem allIn_no {a b : Int} {zs : List Int} {j : Nat} (hj : j < zs.length) (h : zs.getD j 0 < a ∨ b < zs.getD j 0) : allIn a b zs = false := by
  rw [← Bool.not_eq_true]
  intro ht
  unfold allIn at ht
  rw [List.all_eq_true] at ht
  rw [List.getD_eq_getElem?_getD, List.getElem?_eq_getElem hj] at h
  have := ht _ (List.getElem_mem hj)
  simp at this h
  omega
set_option maxHeartbeats 400000 in
theorem range_any (p q : Nat) (a b : Int) (v : Value) (zs : List Int) (x : Bool) (w : World) (hv : Ints w v zs) (hl : zs.length ≤ 1000000) (hp : w.cell? ⟨p, 0, none⟩ = some (.int .i64 a)) (hq : w.cell? ⟨q, 0, none⟩ = some (.int .i64 b)) (hx : allIn a b zs = x) :
    Calls Tryz.prog 43 #[v, .pointer (some ⟨p, 0, none⟩), .pointer (some ⟨q, 0, none⟩)] w fun e w' => e = .returned (.bool x) ∧ w = w' := by
  have HV := Lib.hid hv
  have HX := Lib.hid hx
  obtain ⟨va, cap, rfl, _⟩ := hv
  clear hx
  go_enter Tryz.func43, Tryz.ntmps43
  go_wp2_with fail
  go_loop [9] (fun i => ∃ k : Nat, k ≤ zs.length ∧ i = .int .i64 k ∧ ∀ j, j < k → a ≤ zs.getD j 0 ∧ zs.getD j 0 ≤ b) (fun i => zs.length - (intOf i).toNat)
  case atStart => exact ⟨0, Nat.zero_le _, rfl, fun j hj => by omega⟩
  case round =>
    obtain ⟨k, hk, rfl, hok⟩ := hrel
    have HOK := Lib.hid hok
    clear hok
    by_cases hlt : k < zs.length
    · obtain ⟨c, o, rfl, hle, hck⟩ := HV.out.cellAt hlt
      clear hle
      obtain ⟨y, hy⟩ : ∃ y, y = zs.getD k 0 := ⟨_, rfl⟩
      rw [← hy] at hck
      have HY := Lib.hid hy
      clear hy
      by_cases h1 : y < a
      · have hz : false = x := by rw [← HX.out, allIn_no hlt (.inl (by rw [← HY.out]; exact h1))]
        subst hz
        go_wp2_with fail
        go_ret
        exact ⟨rfl, rfl⟩
      · by_cases h2 : b < y
        · have hz : false = x := by rw [← HX.out, allIn_no hlt (.inr (by rw [← HY.out]; exact h2))]
          subst hz
          go_wp2_with fail
          go_ret
          exact ⟨rfl, rfl⟩
        · go_wp2_with fail
          refine ⟨⟨k + 1, by omega, by go_num, fun j hj => ?_⟩, by simp [intOf]; omega⟩
          by_cases hjk : j = k
          · subst hjk
            rw [← HY.out]
            omega
          · exact HOK.out j (by omega)
    · have hkn : k = zs.length := by omega
      subst hkn
      have hz : true = x := by rw [← HX.out, allIn_yes HOK.out]
      subst hz
      go_wp2_with fail
      go_ret
      exact ⟨rfl, rfl⟩
/-- What from hands back. -/
def IsFrom (a b : Int) (w : World) (e : Ending) (w' : World) : Prop :=
  ∃ p q, e = .returned (.func (.func 43) #[] #[.pointer (some ⟨p, 0, none⟩), .pointer (some ⟨q, 0, none⟩)]) ∧ w.heap.size ≤ p ∧ p < w'.heap.size ∧ w.heap.size ≤ q ∧ q < w'.heap.size ∧ w'.cell? ⟨p, 0, none⟩ = some (.int .i64 a) ∧ w'.cell? ⟨q, 0, none⟩ = some (.int .i64 b) ∧ Below w.heap.size w w'
theorem from_any (a b : Int) (w : World) : Calls Tryz.prog 19 #[.int .i64 a, .int .i64 b] w (IsFrom a b w) := by
  go_enter Tryz.func19, Tryz.ntmps19
  go_wp2_with fail
  go_ret
  refine ⟨w.heap.size, w.heap.size + 1, ?_, Nat.le_refl _, ?_, by omega, ?_, ?_, ?_, ?_⟩
  · simp
  · simp only [World.size_alloc]; omega
  · simp only [World.size_alloc]; omega
  · rw [(bcell ((Below.refl (w.alloc (.cells #[.int .i64 a] 3)).heap.size _).alloc (Nat.le_refl _) _)).1 w.heap.size 0 (by simp only [World.size_alloc]; omega)]
    exact cell_new w _ _ 0 _ rfl
  · have := cell_new (w.alloc (.cells #[.int .i64 a] 3)) #[.int .i64 b] 3 0 _ rfl
    simp only [World.size_alloc] at this
    exact this
  · exact ((Below.refl _ _).alloc (Nat.le_refl _) _).alloc (by simp) _
/-- A slice that was made of numbers. -/
theorem ints_alloc (w : World) (zs : List Int) (T : TypeId) : Ints (w.alloc (.cells (zs.map fun z => Value.int .i64 z).toArray T)) (.slice (some ⟨w.heap.size, 0, none⟩) zs.length zs.length) zs := by
  refine ⟨some ⟨w.heap.size, 0, none⟩, zs.length, rfl, .inr ⟨w.heap.size, 0, rfl, fun i hi => ?_⟩⟩
  exact cell_new w _ _ _ _ (by simp [List.getD_eq_getElem?_getD, List.getElem?_eq_getElem hi])
theorem strs_alloc (w : World) (ts : List ByteArray) (T : TypeId) : Strs (w.alloc (.cells (ts.map fun t => Value.string t).toArray T)) w.heap.size (.slice (some ⟨w.heap.size, 0, none⟩) ts.length ts.length) ts := by
  refine ⟨some ⟨w.heap.size, 0, none⟩, ts.length, rfl, .inr ⟨w.heap.size, 0, rfl, Nat.le_refl _, fun i hi => ?_⟩⟩
  exact cell_new w _ _ _ _ (by simp [List.getD_eq_getElem?_getD, List.getElem?_eq_getElem hi])

theorem eqs_any (v u : Value) (ts us : List ByteArray) (w : World) (hv : Strs w 0 v ts) (hu : Strs w 0 u us) (hl : ts.length ≤ 1000000) : Calls Tryz.prog 35 #[v, u] w fun e w' => e = .returned (.bool (decide (ts = us))) ∧ ∃ k, w' = w.drewN k := by
  have HV := Lib.hid hv
  have HU := Lib.hid hu
  obtain ⟨a, cap, rfl⟩ := hv.form
  obtain ⟨c, cap2, rfl⟩ := hu.form
  clear hv hu
  by_cases hlen : ts.length = us.length
  · have hb : ((ts.length : Int) == us.length) = true := by simp [hlen]
    have hnb : ((ts.length : Int) != us.length) = false := by simp [hlen]
    have HLEN := Lib.hid hlen
    clear hlen
    go_enter Tryz.func35, Tryz.ntmps35
    go_wp2_with fail
    go_loopw [13] (fun i wr => ∃ k : Nat, k ≤ ts.length ∧ i = .int .i64 k ∧ ts.take k = us.take k ∧ ∃ d, wr = w.drewN d) (fun i _ => ts.length - (intOf i).toNat)
    case atStart => exact ⟨0, Nat.zero_le _, rfl, rfl, 0, rfl⟩
    case round =>
      obtain ⟨k, hk, rfl, heq, d, rfl⟩ := hrel
      have HEQ := Lib.hid heq
      clear heq
      by_cases hlt : k < ts.length
      · obtain ⟨b, o, rfl, hck⟩ := HV.out.cellAt hlt
        obtain ⟨b2, o2, rfl, hck2⟩ := HU.out.cellAt (i := k) (by rw [← HLEN.out]; exact hlt)
        have hlt2 : k < us.length := by rw [← HLEN.out]; exact hlt
        obtain ⟨t, ht⟩ : ∃ t, t = ts.getD k ⟨#[]⟩ := ⟨_, rfl⟩
        obtain ⟨u, hu⟩ : ∃ t, t = us.getD k ⟨#[]⟩ := ⟨_, rfl⟩
        rw [← ht] at hck
        rw [← hu] at hck2
        have HT := Lib.hid ht
        have HUU := Lib.hid hu
        clear ht hu
        by_cases htu : t = u
        · subst htu
          go_wp2_with fail
          go_quiet (fail)
          go_wp2_with fail
          refine ⟨⟨k + 1, by omega, by go_num, ?_, _, rfl⟩, by simp [intOf]; omega⟩
          rw [take_snoc' ts hlt, take_snoc' us hlt2, HEQ.out, ← HT.out, ← HUU.out]
        · have hne : t.toList ≠ u.toList := fun h => htu (by rw [← ba_toList t, h, ba_toList u])
          have HNE : Hid (¬ ts = us) := Lib.hid fun h => htu (by rw [HT.out, HUU.out, h])
          have h1 : (t.toList == u.toList) = false := by simpa using hne
          have h2 : (t.toList != u.toList) = true := by simpa using hne
          clear htu hne
          go_wp2_with fail
          go_quiet (fail)
          go_wp2_with fail
          go_ret
          exact ⟨by rw [decide_eq_false HNE.out]; rfl, d + _, drewN_add _ _ _⟩
      · obtain rfl : k = ts.length := by omega
        have h : ts = us := by
          have h1 := HEQ.out
          rwa [List.take_of_length_le (Nat.le_refl _), List.take_of_length_le (by rw [HLEN.out]; exact Nat.le_refl _)] at h1
        have HH := Lib.hid h
        clear h
        go_wp2_with fail
        go_ret
        exact ⟨by rw [decide_eq_true HH.out]; rfl, d, rfl⟩
  · have hb : ((ts.length : Int) == us.length) = false := by simp; omega
    have hnb : ((ts.length : Int) != us.length) = true := by simp; omega
    have HNE : Hid (¬ ts = us) := Lib.hid fun h => hlen (by rw [h])
    clear hlen
    go_enter Tryz.func35, Tryz.ntmps35
    go_wp2_with fail
    go_ret
    exact ⟨by rw [decide_eq_false HNE.out]; rfl, 0, rfl⟩
theorem eqi_any (v u : Value) (ts us : List Int) (w : World) (hv : Ints w v ts) (hu : Ints w u us) (hl : ts.length ≤ 1000000) : Calls Tryz.prog 34 #[v, u] w fun e w' => e = .returned (.bool (decide (ts = us))) ∧ ∃ k, w' = w.drewN k := by
  have HV := Lib.hid hv
  have HU := Lib.hid hu
  obtain ⟨a, cap, rfl, _⟩ := hv
  obtain ⟨c, cap2, rfl, _⟩ := hu
  by_cases hlen : ts.length = us.length
  · have hb : ((ts.length : Int) == us.length) = true := by simp [hlen]
    have hnb : ((ts.length : Int) != us.length) = false := by simp [hlen]
    have HLEN := Lib.hid hlen
    clear hlen
    go_enter Tryz.func34, Tryz.ntmps34
    go_wp2_with fail
    go_loopw [13] (fun i wr => ∃ k : Nat, k ≤ ts.length ∧ i = .int .i64 k ∧ ts.take k = us.take k ∧ ∃ d, wr = w.drewN d) (fun i _ => ts.length - (intOf i).toNat)
    case atStart => exact ⟨0, Nat.zero_le _, rfl, rfl, 0, rfl⟩
    case round =>
      obtain ⟨k, hk, rfl, heq, d, rfl⟩ := hrel
      have HEQ := Lib.hid heq
      clear heq
      by_cases hlt : k < ts.length
      · obtain ⟨b, o, rfl, hl1, hck⟩ := HV.out.cellAt hlt
        have hlt2 : k < us.length := by rw [← HLEN.out]; exact hlt
        obtain ⟨b2, o2, rfl, hl2, hck2⟩ := HU.out.cellAt hlt2
        clear hl1 hl2
        obtain ⟨t, ht⟩ : ∃ t, t = ts.getD k 0 := ⟨_, rfl⟩
        obtain ⟨u, hu⟩ : ∃ t, t = us.getD k 0 := ⟨_, rfl⟩
        rw [← ht] at hck
        rw [← hu] at hck2
        have HT := Lib.hid ht
        have HUU := Lib.hid hu
        clear ht hu
        by_cases htu : t = u
        · subst htu
          go_wp2_with fail
          go_quiet (fail)
          go_wp2_with fail
          refine ⟨⟨k + 1, by omega, by go_num, ?_, _, rfl⟩, by simp [intOf]; omega⟩
          rw [List.take_succ_eq_append_getElem hlt, List.take_succ_eq_append_getElem hlt2, HEQ.out]
          have e1 := HT.out
          have e2 := HUU.out
          rw [List.getD_eq_getElem?_getD, List.getElem?_eq_getElem hlt] at e1
          rw [List.getD_eq_getElem?_getD, List.getElem?_eq_getElem hlt2] at e2
          simp only [Option.getD_some] at e1 e2
          rw [← e1, ← e2]
        · have HNE : Hid (¬ ts = us) := Lib.hid fun h => htu (by rw [HT.out, HUU.out, h])
          have h1 : (t == u) = false := by simpa using htu
          have h2 : (t != u) = true := by simpa using htu
          clear htu
          go_wp2_with fail
          go_quiet (fail)
          go_wp2_with fail
          go_ret
          exact ⟨by rw [decide_eq_false HNE.out]; rfl, d + _, drewN_add _ _ _⟩
      · obtain rfl : k = ts.length := by omega
        have h : ts = us := by
          have h1 := HEQ.out
          rwa [List.take_of_length_le (Nat.le_refl _), List.take_of_length_le (by rw [HLEN.out]; exact Nat.le_refl _)] at h1
        have HH := Lib.hid h
        clear h
        go_wp2_with fail
        go_ret
        exact ⟨by rw [decide_eq_true HH.out]; rfl, d, rfl⟩
  · have hb : ((ts.length : Int) == us.length) = false := by simp; omega
    have hnb : ((ts.length : Int) != us.length) = true := by simp; omega
    have HNE : Hid (¬ ts = us) := Lib.hid fun h => hlen (by rw [h])
    clear hlen
    go_enter Tryz.func34, Tryz.ntmps34
    go_wp2_with fail
    go_ret
    exact ⟨by rw [decide_eq_false HNE.out]; rfl, 0, rfl⟩
/-- Where a text is in a list, if it is. -/
def IdxTo (ts : List ByteArray) (s : ByteArray) (w : World) (e : Ending) (w' : World) : Prop := ∃ i : Int, e = .returned (.int .i64 i) ∧ decide (0 ≤ i) = memB s ts ∧ w = w'
theorem index_any (v : Value) (ts : List ByteArray) (s : ByteArray) (w : World) (hv : Strs w 0 v ts) (hl : ts.length ≤ 1000000) : Calls Tryz.prog 105 #[v, .string s] w (IdxTo ts s w) := by
  have HV := Lib.hid hv
  obtain ⟨a, cap, rfl⟩ := hv.form
  clear hv
  go_enter Tryz.func105, Tryz.ntmps105
  go_wp2_with fail
  go_loop [8] (fun i => ∃ k : Nat, k ≤ ts.length ∧ i = .int .i64 k ∧ ∀ j, j < k → s ≠ ts.getD j ⟨#[]⟩) (fun i => ts.length - (intOf i).toNat)
  case atStart => exact ⟨0, Nat.zero_le _, rfl, fun j hj => by omega⟩
  case round =>
    obtain ⟨k, hk, rfl, hok⟩ := hrel
    have HOK := Lib.hid hok
    clear hok
    by_cases hlt : k < ts.length
    · obtain ⟨b, o, rfl, hck⟩ := HV.out.cellAt hlt
      obtain ⟨t, ht⟩ : ∃ t, t = ts.getD k ⟨#[]⟩ := ⟨_, rfl⟩
      rw [← ht] at hck
      have HT := Lib.hid ht
      clear ht
      by_cases hst : s = t
      · subst hst
        have HIN : Hid (s ∈ ts) := Lib.hid (by
          have h1 := HT.out
          rw [List.getD_eq_getElem?_getD, List.getElem?_eq_getElem hlt] at h1
          simp only [Option.getD_some] at h1
          rw [h1]
          exact List.getElem_mem hlt)
        go_wp2_with fail
        go_ret
        exact ⟨k, rfl, by rw [memB_iff.2 HIN.out]; simp, rfl⟩
      · have h1 : (s.toList == t.toList) = false := by
          have : s.toList ≠ t.toList := fun h => hst (by rw [← ba_toList s, h, ba_toList t])
          simpa using this
        have HNE := Lib.hid hst
        clear hst
        go_wp2_with fail
        refine ⟨⟨k + 1, by omega, by go_num, fun j hj => ?_⟩, by simp [intOf]; omega⟩
        by_cases hjk : j = k
        · subst hjk
          rw [← HT.out]
          exact HNE.out
        · exact HOK.out j (by omega)
    · have hkn : k = ts.length := by omega
      subst hkn
      have HOUT : Hid (¬ s ∈ ts) := Lib.hid (fun hin => by
        obtain ⟨j, hj, hx⟩ := List.mem_iff_getElem.1 hin
        have := HOK.out j hj
        rw [List.getD_eq_getElem?_getD, List.getElem?_eq_getElem hj] at this
        exact this hx.symm)
      go_wp2_with fail
      go_ret
      exact ⟨-1, rfl, by rw [memB_no HOUT.out]; simp, rfl⟩
theorem contains_any (v : Value) (ts : List ByteArray) (s : ByteArray) (x : Bool) (w : World) (hv : Strs w 0 v ts) (hl : ts.length ≤ 1000000) (hx : memB s ts = x) : Calls Tryz.prog 92 #[v, .string s] w fun e w' => e = .returned (.bool x) ∧ w = w' := by
  have HI := Lib.hid (index_any v ts s w hv hl)
  have HX := Lib.hid hx
  clear hv hx
  go_enter Tryz.func92, Tryz.ntmps92
  go_wp2_with fail
  refine HI.out.mono ?_
  rintro e w1 ⟨i, rfl, hi, rfl⟩
  rw [HX.out] at hi
  cases x
  · have h1 : decide (0 ≤ i) = false := hi
    clear hi
    go_wp2_with fail
    go_ret
    exact ⟨rfl, rfl⟩
  · have h1 : decide (0 ≤ i) = true := hi
    clear hi
    go_wp2_with fail
    go_ret
    exact ⟨rfl, rfl⟩
end Go.Proofs.YtelpkniockhjgaaGreat
