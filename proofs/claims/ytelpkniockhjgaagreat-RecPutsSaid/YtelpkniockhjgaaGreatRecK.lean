/-
  A record's bytes, got back; what is got has just those bytes.
-/
import Derived.Test.YtelpkniockhjgaaGreatRecJ
import Derived.Test.YtelpkniockhjgaaGreatNamM
namespace Go.Proofs.YtelpkniockhjgaaGreat
open Go.RowKit Go.Deep
set_option linter.unusedVariables false
set_option linter.unusedSimpArgs false

theorem bytesL (s : ByteArray) : ∃ l : List UInt8, s = ⟨l.toArray⟩ := ⟨s.data.toList, by simp⟩
theorem numB_get : ∀ l : List UInt8, Oc.numB l.length (Oc.getN l) = l := by
  intro l
  induction l with
  | nil => rfl
  | cons c l ih =>
    have hp : 0 < 256 ^ l.length := Nat.pow_pos (by decide)
    have hl := Oc.getN_lt l
    rw [List.length_cons, Oc.numB, Oc.getN_cons]
    have e1 : (c.toNat * 256 ^ l.length + Oc.getN l) / 256 ^ l.length = c.toNat := by
      rw [Nat.mul_comm, Nat.mul_add_div hp, Nat.div_eq_of_lt hl, Nat.add_zero]
    rw [e1]
    have e2 : UInt8.ofNat c.toNat = c := by simp
    rw [e2]
    congr 1
    have hm : ∀ m, m ≤ l.length → ∀ y, Oc.numB m y = Oc.numB m (y % 256 ^ l.length) := by
      intro m
      induction m with
      | zero => intro _ y; rfl
      | succ m ihm =>
        intro hm y
        rw [Oc.numB, Oc.numB, ihm (by omega) y]
        congr 1
        apply UInt8.toNat_inj.1
        rw [UInt8.toNat_ofNat', UInt8.toNat_ofNat']
        have e : 256 ^ l.length = 256 ^ m * (256 * 256 ^ (l.length - m - 1)) := by rw [← Nat.pow_succ', ← Nat.pow_add]; congr 1; omega
        rw [e, Nat.mod_mul_right_div_self, Nat.mod_mul_right_mod]
    rw [hm l.length (Nat.le_refl _), Nat.mul_comm, Nat.mul_add_mod, Nat.mod_eq_of_lt hl]
    exact ih
/-- Reading a number that stands there. -/
theorem numR_read (n x : Nat) (h1 : 1 ≤ n) (h7 : n ≤ 7) (hx : x < 256 ^ n) (r : List UInt8) : numR ⟨(Oc.numB n x ++ r).toArray⟩ 0 n = (x, ⟨r.toArray⟩, 0) := by
  unfold numR
  rw [if_pos rfl, Oc.numS_read n x h1 h7 hx r]
  rfl
theorem textR_read (t : ByteArray) (r : List UInt8) (most : Int) (h : (t.size : Int) ≤ most) (h2 : t.size ≤ 65535) : textR ⟨(Oc.txtB t ++ r).toArray⟩ 0 most = (t, ⟨r.toArray⟩, 0) := by
  unfold textR
  rw [if_pos rfl, Oc.textS_read t r most h h2]
  rfl
theorem listR_read (ts : List ByteArray) (r : List UInt8) (many most : Int) (hm : (ts.length : Int) ≤ many) (hl : ts.length ≤ 255) (h : ∀ t ∈ ts, (t.size : Int) ≤ most ∧ t.size ≤ 65535) : listR ⟨(Oc.listB ts ++ r).toArray⟩ 0 many most = (ts, ⟨r.toArray⟩, 0) := by
  unfold listR
  rw [if_pos rfl, Oc.listS_read ts r many most hm hl h]
  rfl
/-- What was read stood there. -/
theorem numR_back {s s' : ByteArray} {x : Int} {n v : Nat} (h1 : 1 ≤ n) (h7 : n ≤ 7) (h : numR s x n = (v, s', 0)) : x = 0 ∧ s.data.toList = Oc.numB n v ++ s'.data.toList := by
  unfold numR at h
  by_cases hx : x = 0
  · rw [if_pos hx, Oc.numS_eq s n h1 h7] at h
    refine ⟨hx, ?_⟩
    by_cases hs : s.size < n
    · rw [if_pos hs] at h
      simp at h
    · rw [if_neg hs] at h
      simp only [Prod.mk.injEq, Oc.goS, if_true] at h
      obtain ⟨rfl, rfl, _⟩ := h
      obtain ⟨l, rfl⟩ := bytesL s
      have hl : n ≤ l.length := by have : (⟨l.toArray⟩ : ByteArray).size = l.length := rfl; omega
      rw [extract_of]
      show l = Oc.numB n (Oc.getN (l.take n)) ++ ((l.take l.length).drop n)
      have e := numB_get (l.take n)
      rw [List.length_take, Nat.min_eq_left hl] at e
      rw [e, List.take_length, List.take_append_drop]
  · rw [if_neg hx] at h
    simp only [Prod.mk.injEq] at h
    exact absurd h.2.2 hx
theorem textS_back {s t s' : ByteArray} {most : Int} (h : Oc.textS s most = (t, s', 0)) : s.data.toList = Oc.txtB t ++ s'.data.toList ∧ (t.size : Int) ≤ most := by
  unfold Oc.textS at h
  obtain ⟨v, r, y, hn⟩ : ∃ v r y, Oc.numS s 2 = (v, r, y) := ⟨_, _, _, rfl⟩
  rw [hn] at h
  simp only at h
  by_cases hy : y = 0
  · subst hy
    rw [if_pos rfl] at h
    have hb := (numR_back (s := s) (x := 0) (n := 2) (v := v) (s' := r) (by decide) (by decide) (by
      unfold numR
      rw [if_pos rfl]
      rw [show ((2 : Nat) : Int) = 2 from rfl, hn]
      rfl)).2
    have hvl : v < 65536 := Oc.numS_lt (n := 2) hn
    by_cases hm : most < (v : Int)
    · rw [if_pos hm] at h
      simp at h
    · rw [if_neg hm, Oc.cutS_eq] at h
      by_cases hr : r.size < v
      · rw [if_pos hr] at h
        simp at h
      · rw [if_neg hr] at h
        simp only [Prod.mk.injEq] at h
        obtain ⟨rfl, rfl, _⟩ := h
        obtain ⟨l, rfl⟩ := bytesL r
        have hl : v ≤ l.length := by have : (⟨l.toArray⟩ : ByteArray).size = l.length := rfl; omega
        have hz : ((⟨l.toArray⟩ : ByteArray).extract 0 v).size = v := by rw [ByteArray.size_extract]; have : (⟨l.toArray⟩ : ByteArray).size = l.length := rfl; omega
        refine ⟨?_, by rw [hz]; omega⟩
        rw [hb]
        unfold Oc.txtB
        rw [hz, extract_of, extract_of]
        show _ ++ l = _ ++ ((l.take v).drop 0) ++ ((l.take l.length).drop v)
        rw [List.drop_zero, List.take_length, List.append_assoc, List.take_append_drop]
  · rw [if_neg hy] at h
    simp only [Prod.mk.injEq] at h
    exact absurd h.2.2 hy
theorem textR_back {s t s' : ByteArray} {x most : Int} (h : textR s x most = (t, s', 0)) : x = 0 ∧ s.data.toList = Oc.txtB t ++ s'.data.toList := by
  unfold textR at h
  by_cases hx : x = 0
  · rw [if_pos hx] at h
    obtain ⟨a, b, c, hc⟩ : ∃ a b c, Oc.textS s most = (a, b, c) := ⟨_, _, _, rfl⟩
    rw [hc] at h
    simp only [Prod.mk.injEq, Oc.goS] at h
    obtain ⟨rfl, h2, rfl⟩ := h
    rw [if_pos rfl] at h2
    subst h2
    exact ⟨hx, (textS_back hc).1⟩
  · rw [if_neg hx] at h
    simp only [Prod.mk.injEq] at h
    exact absurd h.2.2 hx
theorem textsS_back (most : Int) : ∀ (n : Nat) (s s' : ByteArray) (acc ts : List ByteArray), Oc.textsS most n s acc = (ts, s', 0) → ∃ us, ts = acc ++ us ∧ us.length = n ∧ s.data.toList = us.flatMap Oc.txtB ++ s'.data.toList
  | 0, s, s', acc, ts, h => by
    simp only [Oc.textsS, Prod.mk.injEq] at h
    obtain ⟨rfl, rfl, _⟩ := h
    exact ⟨[], by simp, rfl, by simp⟩
  | n + 1, s, s', acc, ts, h => by
    simp only [Oc.textsS] at h
    obtain ⟨a, b, c, hc⟩ : ∃ a b c, Oc.textS s most = (a, b, c) := ⟨_, _, _, rfl⟩
    rw [hc] at h
    simp only at h
    by_cases hz : c = 0
    · subst hz
      rw [if_pos rfl] at h
      obtain ⟨us, h1, h2, h3⟩ := textsS_back most n b s' (acc ++ [a]) ts h
      refine ⟨a :: us, by rw [h1]; simp, by simp [h2], ?_⟩
      rw [(textS_back hc).1, h3, List.flatMap_cons, List.append_assoc]
    · rw [if_neg hz] at h
      simp only [Prod.mk.injEq] at h
      exact absurd h.2.2 hz
theorem listR_back {s s' : ByteArray} {ts : List ByteArray} {x many most : Int} (h : listR s x many most = (ts, s', 0)) : x = 0 ∧ s.data.toList = Oc.listB ts ++ s'.data.toList := by
  unfold listR at h
  by_cases hx : x = 0
  · rw [if_pos hx] at h
    obtain ⟨a, b, c, hc⟩ : ∃ a b c, Oc.listS s many most = (a, b, c) := ⟨_, _, _, rfl⟩
    rw [hc] at h
    simp only [Prod.mk.injEq, Oc.goS] at h
    obtain ⟨rfl, h2, rfl⟩ := h
    rw [if_pos rfl] at h2
    subst h2
    refine ⟨hx, ?_⟩
    unfold Oc.listS at hc
    obtain ⟨v, r, y, hn⟩ : ∃ v r y, Oc.numS s 1 = (v, r, y) := ⟨_, _, _, rfl⟩
    rw [hn] at hc
    simp only at hc
    by_cases hy : y = 0
    · subst hy
      rw [if_pos rfl] at hc
      have hb := (numR_back (s := s) (x := 0) (n := 1) (v := v) (s' := r) (by decide) (by decide) (by
        unfold numR
        rw [if_pos rfl]
        rw [show ((1 : Nat) : Int) = 1 from rfl, hn]
        rfl)).2
      by_cases hm : many < (v : Int)
      · rw [if_pos hm] at hc
        simp at hc
      · rw [if_neg hm] at hc
        obtain ⟨us, h1, h2, h3⟩ := textsS_back most v r b [] a hc
        rw [List.nil_append] at h1
        subst h1
        rw [hb, h3]
        unfold Oc.listB
        rw [h2, List.append_assoc]
    · rw [if_neg hy] at hc
      simp only [Prod.mk.injEq] at hc
      exact absurd hc.2.2 hy
  · rw [if_neg hx] at h
    simp only [Prod.mk.injEq] at h
    exact absurd h.2.2 hx
theorem numsB_3 (n : Nat) (a b c : Int) : Oc.numsB n [a, b, c] = Oc.numB n a.toNat ++ (Oc.numB n b.toNat ++ Oc.numB n c.toNat) := by
  unfold Oc.numsB
  simp
theorem packB_eq (m : MsgM) : packB m = Oc.numB 1 m.kind.toNat ++ (Oc.numB 1 m.queue.toNat ++ (Oc.numB 1 m.retry.toNat ++ (Oc.numB 6 m.born.toNat ++ (Oc.numB 6 m.due.toNat ++ (Oc.numB 6 m.ref.toNat ++ (Oc.txtB m.topic ++ (Oc.txtB m.tag ++ (Oc.txtB m.body ++ (Oc.listB m.keys ++ []))))))))) := by
  unfold packB
  rw [numsB_3, numsB_3]
  simp only [List.flatMap_cons, List.flatMap_nil, List.append_nil, List.append_assoc]
/-- What is packed is read again. -/
theorem unp_pack {m : MsgM} (h : Bd m) : unpS ⟨(packB m).toArray⟩ = ⟨m, ⟨#[]⟩, 0⟩ := by
  obtain ⟨kind, queue, due, retry, ref, born, topic, tag, body, keys⟩ := m
  obtain ⟨⟨k0, k1⟩, ⟨q0, q1⟩, ⟨t0, t1⟩, ⟨d0, d1⟩, ⟨r0, r1⟩, ⟨b0, b1⟩, l1, l2, l3, l4, l5⟩ := h
  simp only at k0 k1 q0 q1 t0 t1 d0 d1 r0 r1 b0 b1 l1 l2 l3 l4 l5
  rw [packB_eq]
  unfold unpS
  simp only
  have e1 : ((1 : Nat) : Int) = 1 := rfl
  have e6 : ((6 : Nat) : Int) = 6 := rfl
  rw [← e1, ← e6]
  rw [numR_read 1 kind.toNat (by decide) (by decide) (by omega)]
  simp only
  rw [numR_read 1 queue.toNat (by decide) (by decide) (by omega)]
  simp only
  rw [numR_read 1 retry.toNat (by decide) (by decide) (by omega)]
  simp only
  rw [numR_read 6 born.toNat (by decide) (by decide) (by omega)]
  simp only
  rw [numR_read 6 due.toNat (by decide) (by decide) (by omega)]
  simp only
  rw [numR_read 6 ref.toNat (by decide) (by decide) (by omega)]
  simp only
  rw [textR_read topic _ 16 (by omega) (by omega)]
  simp only
  rw [textR_read tag _ 16 (by omega) (by omega)]
  simp only
  rw [textR_read body _ 200 (by omega) (by omega)]
  simp only
  rw [listR_read keys _ 3 16 (by omega) (by omega) (fun t ht => by have := l5 t ht; omega)]
  simp only [Int.toNat_of_nonneg (show 0 ≤ kind by omega), Int.toNat_of_nonneg q0, Int.toNat_of_nonneg t0, Int.toNat_of_nonneg b0, Int.toNat_of_nonneg d0, Int.toNat_of_nonneg r0]
theorem endE_zero {s : ByteArray} {x : Int} (h : Oc.endE s x = 0) : x = 0 ∧ s.size = 0 := by
  unfold Oc.endE at h
  by_cases hx : x = 0
  · rw [if_pos hx] at h
    refine ⟨hx, ?_⟩
    by_cases hs : 0 < s.size
    · rw [if_pos hs] at h
      cases h
    · omega
  · rw [if_neg hx] at h
    exact absurd h hx
theorem unpB_pack {m : MsgM} (hr : rightB m = true) (hk : m.kind ≠ 0) : unpB ⟨(packB m).toArray⟩ = true := by
  unfold unpB
  rw [unp_pack (right_bd hr hk)]
  simp only
  rw [hr, decide_eq_true hk]
  rfl
/-- What is read is packed so. -/
theorem unp_back {p : ByteArray} (h : unpB p = true) : p = ⟨(packB (unpS p).m).toArray⟩ ∧ rightB (unpS p).m = true ∧ (unpS p).m.kind ≠ 0 := by
  unfold unpB at h
  rw [Bool.and_eq_true, Bool.and_eq_true, decide_eq_true_eq, decide_eq_true_eq] at h
  obtain ⟨h1, h2, h3⟩ := h
  refine ⟨?_, h3, h2⟩
  obtain ⟨hx, hs⟩ := endE_zero h1
  clear h1 h2 h3
  unfold unpS at hx hs ⊢
  simp only at hx hs ⊢
  obtain ⟨v1, s1, x1, e1⟩ : ∃ v s x, numR p 0 1 = (v, s, x) := ⟨_, _, _, rfl⟩
  rw [e1] at hx hs ⊢
  simp only at hx hs ⊢
  obtain ⟨v2, s2, x2, e2⟩ : ∃ v s x, numR s1 x1 1 = (v, s, x) := ⟨_, _, _, rfl⟩
  rw [e2] at hx hs ⊢
  simp only at hx hs ⊢
  obtain ⟨v3, s3, x3, e3⟩ : ∃ v s x, numR s2 x2 1 = (v, s, x) := ⟨_, _, _, rfl⟩
  rw [e3] at hx hs ⊢
  simp only at hx hs ⊢
  obtain ⟨v4, s4, x4, e4⟩ : ∃ v s x, numR s3 x3 6 = (v, s, x) := ⟨_, _, _, rfl⟩
  rw [e4] at hx hs ⊢
  simp only at hx hs ⊢
  obtain ⟨v5, s5, x5, e5⟩ : ∃ v s x, numR s4 x4 6 = (v, s, x) := ⟨_, _, _, rfl⟩
  rw [e5] at hx hs ⊢
  simp only at hx hs ⊢
  obtain ⟨v6, s6, x6, e6⟩ : ∃ v s x, numR s5 x5 6 = (v, s, x) := ⟨_, _, _, rfl⟩
  rw [e6] at hx hs ⊢
  simp only at hx hs ⊢
  obtain ⟨v7, s7, x7, e7⟩ : ∃ v s x, textR s6 x6 16 = (v, s, x) := ⟨_, _, _, rfl⟩
  rw [e7] at hx hs ⊢
  simp only at hx hs ⊢
  obtain ⟨v8, s8, x8, e8⟩ : ∃ v s x, textR s7 x7 16 = (v, s, x) := ⟨_, _, _, rfl⟩
  rw [e8] at hx hs ⊢
  simp only at hx hs ⊢
  obtain ⟨v9, s9, x9, e9⟩ : ∃ v s x, textR s8 x8 200 = (v, s, x) := ⟨_, _, _, rfl⟩
  rw [e9] at hx hs ⊢
  simp only at hx hs ⊢
  obtain ⟨v10, s10, x10, e10⟩ : ∃ v s x, listR s9 x9 3 16 = (v, s, x) := ⟨_, _, _, rfl⟩
  rw [e10] at hx hs ⊢
  simp only at hx hs ⊢
  subst hx
  obtain ⟨rfl, q10⟩ := listR_back e10
  obtain ⟨rfl, q9⟩ := textR_back e9
  obtain ⟨rfl, q8⟩ := textR_back e8
  obtain ⟨rfl, q7⟩ := textR_back e7
  obtain ⟨rfl, q6⟩ := numR_back (n := 6) (by decide) (by decide) e6
  obtain ⟨rfl, q5⟩ := numR_back (n := 6) (by decide) (by decide) e5
  obtain ⟨rfl, q4⟩ := numR_back (n := 6) (by decide) (by decide) e4
  obtain ⟨rfl, q3⟩ := numR_back (n := 1) (by decide) (by decide) e3
  obtain ⟨rfl, q2⟩ := numR_back (n := 1) (by decide) (by decide) e2
  obtain ⟨_, q1⟩ := numR_back (n := 1) (by decide) (by decide) e1
  have hn : s10.data.toList = [] := List.length_eq_zero_iff.1 hs
  rw [packB_eq]
  apply ByteArray.ext
  apply Array.toList_inj.1
  show p.data.toList = _
  rw [q1, q2, q3, q4, q5, q6, q7, q8, q9, q10, hn]
  simp only [Int.toNat_natCast]
end Go.Proofs.YtelpkniockhjgaaGreat
