/-
  A record's bytes.
-/
import Derived.Test.YtelpkniockhjgaaGreatRecR
namespace Go.Proofs.YtelpkniockhjgaaGreat
open Go.RowKit Go.Deep
set_option linter.unusedVariables false
set_option linter.unusedSimpArgs false

/-- What a right record that isn't a filler keeps to. -/
structure Bd (m : MsgM) : Prop where
  kind : 1 ≤ m.kind ∧ m.kind ≤ 4
  queue : 0 ≤ m.queue ∧ m.queue ≤ 2
  retry : 0 ≤ m.retry ∧ m.retry ≤ 4
  due : 0 ≤ m.due ∧ m.due ≤ 1099511627776
  ref : 0 ≤ m.ref ∧ m.ref ≤ 1099511627776
  born : 0 ≤ m.born ∧ m.born ≤ 1099511627776
  topic : m.topic.size ≤ 16
  tag : m.tag.size ≤ 16
  body : m.body.size ≤ 200
  many : m.keys.length ≤ 3
  keys : ∀ t ∈ m.keys, t.size ≤ 16
theorem allIn_iff {a b : Int} {zs : List Int} : allIn a b zs = true ↔ ∀ x ∈ zs, a ≤ x ∧ x ≤ b := by
  unfold allIn
  simp [List.all_eq_true]
theorem empty_size {s : ByteArray} (h : s.toList.isEmpty = true) : s.size = 0 := by
  rw [List.isEmpty_iff, ByteArray.toList_eq] at h
  have := congrArg List.length h
  rw [Array.length_toList] at this
  exact this
theorem plain_le {s : ByteArray} (h : plainB s = true) : s.size ≤ 16 := (okL_iff.1 h).2.1
theorem own_le {s h : ByteArray} (k : ownB s h = true) : s.size ≤ h.size + 8 := by
  unfold ownB at k
  rw [Bool.and_eq_true] at k
  have h1 := (okL_iff.1 k.2).2.1
  rw [ByteArray.size_extract] at h1
  omega
theorem topic_le {s : ByteArray} (h : topicB s = true) : s.size ≤ 16 := by
  unfold topicB isOwn at h
  rw [Bool.or_eq_true, Bool.or_eq_true] at h
  rcases h with (h | h) | h
  · have := own_le h
    have e : (retryH : ByteArray).size = 7 := rfl
    omega
  · have := own_le h
    have e : (deadH : ByteArray).size = 6 := rfl
    omega
  · exact plain_le h
theorem tag_le {s : ByteArray} (h : tagB s = true) : s.size ≤ 16 := by
  unfold tagB at h
  rw [Bool.or_eq_true] at h
  rcases h with h | h
  · rw [empty_size h]; omega
  · exact plain_le h
theorem whole_bd {m : MsgM} (h : wholeB m = true) : (0 ≤ m.queue ∧ m.queue ≤ 2) ∧ (0 ≤ m.retry ∧ m.retry ≤ 4) ∧ m.topic.size ≤ 16 ∧ m.tag.size ≤ 16 ∧ m.body.size ≤ 200 ∧ m.keys.length ≤ 3 ∧ ∀ t ∈ m.keys, t.size ≤ 16 := by
  unfold wholeB at h
  simp only [Bool.and_eq_true, decide_eq_true_eq] at h
  obtain ⟨h1, h2, h3, h4, h5, h6⟩ := h
  unfold keysB at h5
  simp only [Bool.and_eq_true, decide_eq_true_eq] at h5
  obtain ⟨k1, k2, k3⟩ := h5
  refine ⟨allIn_iff.1 h1 _ (by simp), allIn_iff.1 h2 _ (by simp), topic_le h3, tag_le h4, h6, k1, fun t ht => ?_⟩
  exact (okL_iff.1 (List.all_eq_true.1 k2 t ht)).2.1
theorem bare_bd {m : MsgM} (h : bareB m = true) : m.queue = 0 ∧ m.due = 0 ∧ m.retry = 0 ∧ m.keys = [] ∧ m.topic.size = 0 ∧ m.tag.size = 0 := by
  unfold bareB at h
  simp only [Bool.and_eq_true] at h
  obtain ⟨h1, h2, h3⟩ := h
  have h1 := allIn_iff.1 h1
  have a1 := h1 m.queue (by simp)
  have a2 := h1 m.due (by simp)
  have a3 := h1 m.retry (by simp)
  have a4 := h1 (m.keys.length : Int) (by simp)
  refine ⟨by omega, by omega, by omega, List.length_eq_zero_iff.1 (by omega), empty_size h2, empty_size h3⟩
theorem right_bd {m : MsgM} (h : rightB m = true) (hk : m.kind ≠ 0) : Bd m := by
  unfold rightB at h
  rw [Bool.and_eq_true] at h
  obtain ⟨h1, h2⟩ := h
  have h1 := allIn_iff.1 h1
  have n1 := h1 m.due (by simp [MsgM.nums])
  have n2 := h1 m.ref (by simp [MsgM.nums])
  have n3 := h1 m.born (by simp [MsgM.nums])
  unfold restB at h2
  rw [if_neg hk] at h2
  by_cases k1 : m.kind = 1
  · rw [if_pos k1, Bool.and_eq_true] at h2
    obtain ⟨a, b, c, d, e, f, g⟩ := whole_bd h2.1
    exact ⟨by omega, a, b, n1, n2, n3, c, d, e, f, g⟩
  rw [if_neg k1] at h2
  by_cases k2 : m.kind = 2 ∨ m.kind = 3
  · rw [if_pos k2] at h2
    obtain ⟨a, b, c, d, e, f, g⟩ := whole_bd h2
    exact ⟨by omega, a, b, n1, n2, n3, c, d, e, f, g⟩
  rw [if_neg k2] at h2
  by_cases k4 : m.kind = 4
  · rw [if_pos k4, Bool.and_eq_true] at h2
    obtain ⟨a, b, c, d, e, f⟩ := bare_bd h2.1
    have g := empty_size h2.2
    exact ⟨by omega, by omega, by omega, n1, n2, n3, by omega, by omega, by omega, by rw [d]; simp, by rw [d]; intro t ht; cases ht⟩
  rw [if_neg k4] at h2
  cases h2

/-- What is sealed of a record. -/
def packB (m : MsgM) : List UInt8 := Oc.numsB 1 [m.kind, m.queue, m.retry] ++ (Oc.numsB 6 [m.born, m.due, m.ref] ++ ([m.topic, m.tag, m.body].flatMap Oc.txtB ++ Oc.listB m.keys))
theorem numsB3 (n : Nat) (a b c : Int) : (Oc.numsB n [a, b, c]).length = n + (n + n) := by
  unfold Oc.numsB
  simp [Oc.numB_length]
theorem listB_le {l : List ByteArray} (h1 : l.length ≤ 3) (h2 : ∀ t ∈ l, t.size ≤ 16) : (Oc.listB l).length ≤ 55 := by
  unfold Oc.listB
  rw [List.length_append, Oc.numB_length]
  have : ∀ (l : List ByteArray), (∀ t ∈ l, t.size ≤ 16) → (l.flatMap Oc.txtB).length ≤ 18 * l.length := by
    intro l
    induction l with
    | nil => intro _; simp
    | cons t l ih =>
      intro h
      rw [List.flatMap_cons, List.length_append, Oc.txtB_length, List.length_cons]
      have := ih fun u hu => h u (List.mem_cons_of_mem _ hu)
      have := h t (List.mem_cons_self ..)
      omega
  have := this l h2
  omega
theorem packB_le {m : MsgM} (h : Bd m) : (packB m).length ≤ 320 := by
  unfold packB
  have h1 := listB_le h.many h.keys
  have h2 := h.topic
  have h3 := h.tag
  have h4 := h.body
  simp only [List.length_append, numsB3, List.flatMap_cons, List.flatMap_nil, Oc.txtB_length, List.length_nil]
  omega
theorem fit3 {n : Nat} {a b c : Int} (ha : Oc.FitN n a) (hb : Oc.FitN n b) (hc : Oc.FitN n c) : ∀ x ∈ [a, b, c], Oc.FitN n x := by
  intro x hx
  simp only [List.mem_cons, List.not_mem_nil, or_false] at hx
  rcases hx with rfl | rfl | rfl <;> assumption
theorem num3_at (n : Nat) (a b c : Int) (s : ByteArray) (W : World) (h1 : 1 ≤ n) (h7 : n ≤ 7) (hf : ∀ x ∈ [a, b, c], Oc.FitN n x) (hs : s = ⟨(Oc.numsB n [a, b, c]).toArray⟩) :
    Calls Tryz.prog 48 #[.int .i64 n, .slice (some ⟨W.heap.size, 0, none⟩) 3 3] (W.alloc (.cells #[.int .i64 a, .int .i64 b, .int .i64 c] 3)) fun e w' => e = .returned (.tuple #[.string s, .int .i64 0]) ∧ Below W.heap.size W w' := by
  subst hs
  refine (Oc.numS_ok n _ [a, b, c] _ h1 h7 (by decide : (3 : Nat) ≤ 1000000) (ints_alloc W [a, b, c] 3) hf).mono fun e w' h => ⟨h.1, ?_⟩
  exact ((Below.refl W.heap.size W).alloc (Nat.le_refl _) _).trans (h.2.mono (by simp only [World.size_alloc]; omega))
theorem text3_at (a b c : ByteArray) (s : ByteArray) (W : World) (ha : a.size ≤ 200) (hb : b.size ≤ 200) (hc : c.size ≤ 200) (hs : s = ⟨([a, b, c].flatMap Oc.txtB).toArray⟩) :
    Calls Tryz.prog 51 #[.slice (some ⟨W.heap.size, 0, none⟩) 3 3] (W.alloc (.cells #[.string a, .string b, .string c] 9)) fun e w' => e = .returned (.tuple #[.string s, .int .i64 0]) ∧ Below W.heap.size W w' := by
  subst hs
  have hst : Strs (W.alloc (.cells #[.string a, .string b, .string c] 9)) 0 (.slice (some ⟨W.heap.size, 0, none⟩) 3 3) [a, b, c] := (strs_alloc W [a, b, c] 9).zero
  refine (Oc.textW_ok _ [a, b, c] _ (by decide : (3 : Nat) ≤ 1000) (fun t ht => by
    simp only [List.mem_cons, List.not_mem_nil, or_false] at ht
    rcases ht with rfl | rfl | rfl <;> omega) hst).mono fun e w' h => ⟨h.1, ?_⟩
  exact ((Below.refl W.heap.size W).alloc (Nat.le_refl _) _).trans (h.2.mono (by simp only [World.size_alloc]; omega))
set_option maxHeartbeats 4000000 in
set_option maxRecDepth 100000 in
theorem packed_any (m : MsgM) (vk : Value) (s : ByteArray) (w : World) (hk : Strs w 0 vk m.keys) (hb : Bd m) (hs : s = ⟨(packB m).toArray⟩) :
    Calls Tryz.prog 30 #[m.val vk] w fun e w' => e = .returned (.string s) ∧ Below w.heap.size w w' := by
  obtain ⟨s1, h1⟩ : ∃ s : ByteArray, s = ⟨(Oc.numsB 1 [m.kind, m.queue, m.retry]).toArray⟩ := ⟨_, rfl⟩
  obtain ⟨s2, h2⟩ : ∃ s : ByteArray, s = ⟨(Oc.numsB 6 [m.born, m.due, m.ref]).toArray⟩ := ⟨_, rfl⟩
  obtain ⟨s3, h3⟩ : ∃ s : ByteArray, s = ⟨([m.topic, m.tag, m.body].flatMap Oc.txtB).toArray⟩ := ⟨_, rfl⟩
  obtain ⟨s4, h4⟩ : ∃ s : ByteArray, s = ⟨(Oc.listB m.keys).toArray⟩ := ⟨_, rfl⟩
  have b1 : s1.size ≤ 400 := by rw [h1, Oc.size_of, numsB3]; omega
  have b2 : s2.size ≤ 400 := by rw [h2, Oc.size_of, numsB3]; omega
  have b3 : s3.size ≤ 400 := by
    rw [h3, Oc.size_of]
    have h2 := hb.topic
    have h3 := hb.tag
    have h4 := hb.body
    simp only [List.length_append, List.flatMap_cons, List.flatMap_nil, Oc.txtB_length, List.length_nil]
    omega
  have b4 : s4.size ≤ 400 := by rw [h4, Oc.size_of]; have := listB_le hb.many hb.keys; omega
  have hcat : s1 ++ s2 ++ s3 ++ s4 = s := by
    rw [hs, h1, h2, h3, h4, append_toArray, append_toArray, append_toArray]
    unfold packB
    simp only [List.append_assoc]
  have f1 : ∀ x ∈ [m.kind, m.queue, m.retry], Oc.FitN 1 x := fit3 (by have := hb.kind; unfold Oc.FitN; omega) (by have := hb.queue; unfold Oc.FitN; omega) (by have := hb.retry; unfold Oc.FitN; omega)
  have f2 : ∀ x ∈ [m.born, m.due, m.ref], Oc.FitN 6 x := fit3 (by have := hb.born; unfold Oc.FitN; omega) (by have := hb.due; unfold Oc.FitN; omega) (by have := hb.ref; unfold Oc.FitN; omega)
  have HN1 : Hid (Calls Tryz.prog 48 #[.int .i64 1, .slice (some ⟨w.heap.size + 1, 0, none⟩) 3 3] ((w.alloc (.cells (m.cells vk) 24)).alloc (.cells #[.int .i64 m.kind, .int .i64 m.queue, .int .i64 m.retry] 3)) fun e w' => e = .returned (.tuple #[.string s1, .int .i64 0]) ∧ Below (w.heap.size + 1) (w.alloc (.cells (m.cells vk) 24)) w') := Lib.hid (by
    have := num3_at 1 m.kind m.queue m.retry s1 (w.alloc (.cells (m.cells vk) 24)) (by decide) (by decide) f1 h1
    simp only [World.size_alloc] at this
    exact this)
  have HN2 := Lib.hid fun W => num3_at 6 m.born m.due m.ref s2 W (by decide) (by decide) f2 h2
  have HT3 := Lib.hid fun W => text3_at m.topic m.tag m.body s3 W (by have := hb.topic; omega) (by have := hb.tag; omega) hb.body h3
  have HL4 : Hid (∀ W, Below w.heap.size w W → Calls Tryz.prog 52 #[vk] W fun e w' => e = .returned (.tuple #[.string s4, .int .i64 0]) ∧ Below W.heap.size W w') := Lib.hid fun W hbl => by
    rw [h4]
    exact Oc.listW_ok vk m.keys W (by have := hb.many; omega) (fun t ht => by have := hb.keys t ht; omega) (hk.below hbl (Nat.le_refl _))
  have HC := Lib.hid hcat
  clear hs h1 h2 h3 h4 hcat f1 f2 hb hk
  unfold MsgM.val
  unfold MsgM.cells at *
  go_enter Tryz.func30, Tryz.ntmps30
  go_wp2_with fail
  refine HN1.out.mono ?_
  rintro e w1 ⟨rfl, hb⟩
  have hz1 := hb.size
  have hc1 := (bcell hb).1
  simp only [World.size_alloc] at hz1
  have HA1 := Lib.hid hb
  clear hb
  go_wp2_with fail
  refine (HN2.out w1).mono ?_
  rintro e w2 ⟨rfl, hb⟩
  have hz2 := hb.size
  have hb := HA1.out.trans (hb.mono (by omega))
  have hc2 := (bcell hb).1
  have HA2 := Lib.hid hb
  clear hb hc1
  go_wp2_with fail
  refine (HT3.out w2).mono ?_
  rintro e w3 ⟨rfl, hb⟩
  have hz3 := hb.size
  have hb := HA2.out.trans (hb.mono (by omega))
  have hc3 := (bcell hb).1
  have HA3 := Lib.hid hb
  clear hb hc2
  go_wp2_with fail
  refine (HL4.out w3 (((Below.refl w.heap.size w).alloc (Nat.le_refl _) _).trans (HA3.out.mono (by omega)))).mono ?_
  rintro e w4 ⟨rfl, hb⟩
  have hz4 := hb.size
  have HA4 := Lib.hid (HA3.out.trans (hb.mono (by omega)))
  clear hb hc3
  go_wp2_with fail
  rw [HC.out]
  go_ret
  exact ⟨rfl, ((Below.refl w.heap.size w).alloc (Nat.le_refl _) _).trans (HA4.out.mono (by omega))⟩
def frameB (k : UInt8) (rest : List UInt8) : List UInt8 := k :: (Oc.numB 2 (3 + rest.length) ++ rest)
set_option maxRecDepth 100000 in
theorem framed_any (k : UInt8) (rest s : ByteArray) (w : World) (h : rest.size ≤ 60000) (hs : s = ⟨(frameB k rest.data.toList).toArray⟩) :
    Calls Tryz.prog 28 #[.string ⟨#[k]⟩, .string rest] w fun e w' => e = .returned (.string s) ∧ Below w.heap.size w w' := by
  obtain ⟨n, hn⟩ : ∃ n : ByteArray, n = ⟨(Oc.numB 2 (3 + rest.size)).toArray⟩ := ⟨_, rfl⟩
  have hnz : n.size ≤ 2 := by rw [hn, Oc.size_of, Oc.numB_length]; exact Nat.le_refl _
  have hcat : (⟨#[k]⟩ : ByteArray) ++ n ++ rest = s := by
    obtain ⟨l, hl⟩ := Oc.bytes_of rest
    rw [hs, hn, hl]
    have e1 : (⟨#[k]⟩ : ByteArray) = ⟨[k].toArray⟩ := rfl
    rw [e1, append_toArray, append_toArray]
    unfold frameB
    rfl
  have HN : Hid (Calls Tryz.prog 48 #[.int .i64 2, .slice (some ⟨w.heap.size, 0, none⟩) 1 1] (w.alloc (.cells #[.int .i64 (3 + (rest.size : Int))] 3)) fun e w' => e = .returned (.tuple #[.string n, .int .i64 0]) ∧ Below w.heap.size w w') := Lib.hid (by
    refine (Oc.numS_ok 2 _ [3 + (rest.size : Int)] _ (by decide) (by decide) (by decide : (1 : Nat) ≤ 1000000) (ints_alloc w [3 + (rest.size : Int)] 3) ?_).mono fun e w' h => ⟨?_, ?_⟩
    · intro x hx
      rw [List.mem_singleton] at hx
      subst hx
      unfold Oc.FitN
      omega
    · rw [h.1, hn]
      have e2 : (3 + (rest.size : Int)).toNat = 3 + rest.size := by omega
      unfold Oc.numsB
      simp only [List.flatMap_cons, List.flatMap_nil, List.append_nil, e2]
    · exact ((Below.refl w.heap.size w).alloc (Nat.le_refl _) _).trans (h.2.mono (by simp only [World.size_alloc]; omega)))
  have HC := Lib.hid hcat
  have hkz : (⟨#[k]⟩ : ByteArray).size = 1 := rfl
  have HKZ := Lib.hid hkz
  obtain ⟨mk, hmk⟩ : ∃ mk : ByteArray, mk = ⟨#[k]⟩ := ⟨_, rfl⟩
  rw [← hmk] at HC HKZ ⊢
  have hmz : mk.size ≤ 1 := Nat.le_of_eq HKZ.out
  clear hs hn hcat hkz hmk HKZ
  go_enter Tryz.func28, Tryz.ntmps28
  go_wp2_with fail
  refine HN.out.mono ?_
  rintro e w1 ⟨rfl, hb⟩
  have HB := Lib.hid hb
  clear hb
  go_wp2_with fail
  rw [HC.out]
  go_ret
  exact ⟨rfl, HB.out⟩
/-- A filler's bytes. -/
def fillB (n : Nat) : List UInt8 := frameB 90 (List.replicate (n - 3) 0)
theorem fill_no (n : Int) (w : World) (h : n < 3 ∨ 1024 < n) : Calls Tryz.prog 15 #[.int .i64 n] w fun e w' => e = .returned (.tuple #[.string ⟨#[]⟩, .bool false]) ∧ w = w' := by
  by_cases h3 : n < 3
  · clear h
    go_enter Tryz.func15, Tryz.ntmps15
    go_wp2_with fail
    go_ret2
    exact ⟨rfl, rfl⟩
  · have h4 : 1024 < n := by omega
    clear h
    go_enter Tryz.func15, Tryz.ntmps15
    go_wp2_with fail
    go_ret2
    exact ⟨rfl, rfl⟩
theorem fill_yes (n : Nat) (s : ByteArray) (w : World) (h3 : 3 ≤ n) (h4 : n ≤ 1024) (hs : s = ⟨(fillB n).toArray⟩) : Calls Tryz.prog 15 #[.int .i64 n] w fun e w' => e = .returned (.tuple #[.string s, .bool true]) ∧ Below w.heap.size w w' := by
  obtain ⟨k, rfl⟩ : ∃ k, n = k + 3 := ⟨n - 3, by omega⟩
  obtain ⟨t, ht⟩ : ∃ t, t = nots k := ⟨_, rfl⟩
  have hts : t.size ≤ 60000 := by rw [ht, nots_size]; omega
  have HN : Hid (Calls Tryz.prog 37 #[.int .i64 k] w fun e w' => e = .returned (.string t) ∧ Below w.heap.size w w') := Lib.hid (by rw [ht]; exact nots_any k w (by omega))
  have HF := Lib.hid fun W => framed_any 90 t s W hts (by
    rw [hs, ht]
    unfold fillB
    rw [Nat.add_sub_cancel]
    rfl)
  have e3 : ((k + 3 : Nat) : Int) - 3 = (k : Int) := by omega
  have g1 : ¬ ((k + 3 : Nat) : Int) < 3 := by omega
  have g2 : ¬ (1024 : Int) < ((k + 3 : Nat) : Int) := by omega
  obtain ⟨nI, hnI⟩ : ∃ nI : Int, nI = ((k + 3 : Nat) : Int) := ⟨_, rfl⟩
  rw [← hnI] at e3 g1 g2 ⊢
  have b0 : 3 ≤ nI := by omega
  have b1 : nI ≤ 1024 := by omega
  clear hs ht hnI g1 g2
  go_enter Tryz.func15, Tryz.ntmps15
  go_wp2_with fail
  refine HN.out.mono ?_
  rintro e w1 ⟨rfl, hb⟩
  have HB := Lib.hid hb
  clear hb
  go_wp2_with fail
  refine (HF.out w1).mono ?_
  rintro e w2 ⟨rfl, hb⟩
  have HB2 := Lib.hid (HB.out.trans (hb.mono HB.out.size))
  clear hb
  go_wp2_with fail
  go_ret2
  exact ⟨rfl, HB2.out⟩
def recB (m : MsgM) : List UInt8 := frameB 165 (Cr.sealB ⟨(packB m).toArray⟩)
def putO (m : MsgM) : Option (List UInt8) := if rightB m = true then (if m.kind ≠ 0 then some (recB m) else if 3 ≤ m.body.size then some (fillB m.body.size) else none) else none
def PutTo (m : MsgM) (w : World) (e : Ending) (w' : World) : Prop := e = .returned (.tuple #[.string ⟨((putO m).getD []).toArray⟩, .int .i64 (if (putO m).isSome then 0 else 1)]) ∧ Below w.heap.size w w'
end Go.Proofs.YtelpkniockhjgaaGreat
