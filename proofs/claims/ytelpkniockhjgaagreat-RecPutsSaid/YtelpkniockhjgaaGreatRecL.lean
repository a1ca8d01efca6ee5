/-
  What Get makes of what Put made; what Get makes was put so.
-/
import Derived.Test.YtelpkniockhjgaaGreatRecK
namespace Go.Proofs.YtelpkniockhjgaaGreat
open Go.RowKit Go.Deep
set_option linter.unusedVariables false
set_option linter.unusedSimpArgs false

theorem sizeL (l : List UInt8) : (⟨l.toArray⟩ : ByteArray).size = l.length := rfl
theorem dataL (l : List UInt8) : (⟨l.toArray⟩ : ByteArray).data.toList = l := rfl
theorem toListL (l : List UInt8) : (⟨l.toArray⟩ : ByteArray).toList = l := by rw [ByteArray.toList_eq]
theorem hasL (k c : UInt8) (l : List UInt8) : hasB ⟨(c :: l).toArray⟩ ⟨#[k]⟩ = (c == k) := by
  rw [hasB_list, dataL, sizeL]
  show (decide (1 ≤ (c :: l).length) && ((c :: l).take 1 == [k])) = _
  simp
theorem frameB_length (k : UInt8) (rest : List UInt8) : (frameB k rest).length = 3 + rest.length := by
  unfold frameB
  rw [List.length_cons, List.length_append, Oc.numB_length]
  omega
theorem toldN_frame (k : UInt8) (rest r : List UInt8) (h : 3 + rest.length < 65536) : toldN ⟨(frameB k rest ++ r).toArray⟩ = 3 + rest.length := by
  unfold toldN
  rw [extract_of]
  have e : ((frameB k rest ++ r).take (⟨(frameB k rest ++ r).toArray⟩ : ByteArray).size).drop 1 = Oc.numB 2 (3 + rest.length) ++ (rest ++ r) := by
    rw [sizeL, List.take_length]
    unfold frameB
    simp
  rw [e]
  have := Oc.numS_read 2 (3 + rest.length) (by decide) (by decide) (by omega) (rest ++ r)
  rw [show ((2 : Nat) : Int) = 2 from rfl] at this
  rw [this]
theorem lenS_frame (k : UInt8) (rest r : List UInt8) (hk : k = 90 ∨ k = 165) (h : 3 + rest.length < 65536) (hf : k = 90 → 3 + rest.length ≤ 1024) : lenS ⟨(frameB k rest ++ r).toArray⟩ = (((3 + rest.length : Nat) : Int), 0) := by
  have hF : hasB ⟨(frameB k rest ++ r).toArray⟩ fH = (k == 90) := hasL 90 k _
  have hR : hasB ⟨(frameB k rest ++ r).toArray⟩ rH = (k == 165) := hasL 165 k _
  have hz : (⟨(frameB k rest ++ r).toArray⟩ : ByteArray).size = 3 + rest.length + r.length := by rw [sizeL, List.length_append, frameB_length]
  unfold lenS
  rw [toldN_frame k rest r h, hF, hR, hz]
  rw [if_neg (by
    rintro ⟨_, h1, h2⟩
    rcases hk with rfl | rfl
    · simp at h1
    · simp at h2), if_neg (by omega), if_neg (by
    rintro (h1 | ⟨h1, h2⟩)
    · omega
    · have : k = 90 := by simpa using h1
      have := hf this
      omega), if_neg (by omega)]
theorem take_frame (k : UInt8) (rest r : List UInt8) : (⟨(frameB k rest ++ r).toArray⟩ : ByteArray).extract 0 (3 + rest.length) = ⟨(frameB k rest).toArray⟩ := by
  rw [extract_of, List.drop_zero, ← frameB_length k rest, List.take_left]
theorem rest_frame (k : UInt8) (rest : List UInt8) : (⟨(frameB k rest).toArray⟩ : ByteArray).extract 3 (⟨(frameB k rest).toArray⟩ : ByteArray).size = ⟨rest.toArray⟩ := by
  rw [extract_of, sizeL, List.take_length]
  have e : (frameB k rest).drop 3 = rest := by
    unfold frameB
    rw [List.drop_succ_cons, List.drop_left' (Oc.numB_length 2 _)]
  rw [e]
theorem notsB_rep (n : Nat) : notsB ⟨(List.replicate n (0 : UInt8)).toArray⟩ = true := by
  unfold notsB
  refine decide_eq_true ?_
  rw [sizeL, List.length_replicate]
  rfl
theorem get_fill (n : Nat) (r : List UInt8) (h3 : 3 ≤ n) (h4 : n ≤ 1024) : getS ⟨(fillB n ++ r).toArray⟩ = (fillM n, (n : Int), 0) := by
  obtain ⟨k, rfl⟩ : ∃ k, n = 3 + k := ⟨n - 3, by omega⟩
  have hl : (List.replicate k (0 : UInt8)).length = k := List.length_replicate
  have hf : fillB (3 + k) = frameB 90 (List.replicate k 0) := by unfold fillB; rw [Nat.add_sub_cancel_left]
  have hL := lenS_frame 90 (List.replicate k 0) r (.inl rfl) (by omega) (fun _ => by omega)
  rw [hl] at hL
  unfold getS
  rw [hf, hL]
  simp only
  rw [if_neg (by decide), Int.toNat_natCast]
  have ht := take_frame 90 (List.replicate k 0) r
  rw [hl] at ht
  rw [ht]
  have ho : openedS ⟨(frameB 90 (List.replicate k 0)).toArray⟩ = (fillM (3 + k), 0) := by
    unfold openedS
    rw [if_pos (show hasB ⟨(frameB 90 (List.replicate k 0)).toArray⟩ fH = true from hasL 90 90 _), rest_frame, if_pos (notsB_rep k), sizeL, frameB_length, hl]
  rw [ho]
  rfl
theorem get_rec {m : MsgM} (hr : rightB m = true) (hk : m.kind ≠ 0) (r : List UInt8) : getS ⟨(recB m ++ r).toArray⟩ = (m, ((recB m).length : Int), 0) := by
  have hp := packB_le (right_bd hr hk)
  have hl : (Cr.sealB ⟨(packB m).toArray⟩).length = 4 + (packB m).length := by rw [Cr.sealB_length, sizeL]
  have hL := lenS_frame 165 (Cr.sealB ⟨(packB m).toArray⟩) r (.inr rfl) (by omega) (fun h => by cases h)
  have hlen : (recB m).length = 3 + (Cr.sealB ⟨(packB m).toArray⟩).length := frameB_length _ _
  unfold getS
  rw [show recB m = frameB 165 (Cr.sealB ⟨(packB m).toArray⟩) from rfl, hL]
  simp only
  rw [if_neg (by decide), Int.toNat_natCast, take_frame]
  have ho : openedS ⟨(frameB 165 (Cr.sealB ⟨(packB m).toArray⟩)).toArray⟩ = (m, 0) := by
    unfold openedS
    rw [if_neg (by rw [show hasB ⟨(frameB 165 (Cr.sealB ⟨(packB m).toArray⟩)).toArray⟩ fH = ((165 : UInt8) == 90) from hasL 90 165 _]; decide), rest_frame, if_pos (Cr.sealed_opens _), Cr.sealed_back, if_pos (unpB_pack hr hk), unp_pack (right_bd hr hk)]
  rw [ho, frameB_length]
  rfl
theorem fillM_right (n : Nat) (h4 : n ≤ 1024) : rightB (fillM n) = true := by
  have h1 : allIn 0 1099511627776 (fillM n).nums = true := by
    show allIn 0 1099511627776 [0, 0, 0, 0, 0, 0] = true
    decide
  have h2 : notsB (fillM n).body = true := by
    have : (fillM n).body = ⟨(List.replicate n (0 : UInt8)).toArray⟩ := rfl
    rw [this]
    exact notsB_rep n
  have h3 : (fillM n).body.size ≤ 1024 := by show (nots n).size ≤ _; rw [nots_size]; exact h4
  unfold rightB restB
  rw [h1, if_pos (show (fillM n).kind = 0 from rfl), h2, decide_eq_true h3]
  have h5 : bareB (fillM n) = true := by
    unfold bareB fillM
    simp [allIn]
  rw [h5]
  rfl
theorem putO_fill (n : Nat) (h3 : 3 ≤ n) (h4 : n ≤ 1024) : putO (fillM n) = some (fillB n) := by
  unfold putO
  rw [if_pos (fillM_right n h4), if_neg (show ¬ (fillM n).kind ≠ 0 from fun h => h rfl)]
  have : (fillM n).body.size = n := nots_size n
  rw [this, if_pos h3]
theorem get_back {b : ByteArray} {m : MsgM} {n : Int} (h : getS b = (m, n, 0)) : 3 ≤ n ∧ n ≤ b.size ∧ putO m = some (b.data.toList.take n.toNat) := by
  unfold getS at h
  obtain ⟨ln, lx, hl⟩ : ∃ a c, lenS b = (a, c) := ⟨_, _, rfl⟩
  rw [hl] at h
  simp only at h
  by_cases hx : lx = 0
  · subst hx
    rw [if_neg (by decide)] at h
    obtain ⟨n3, n4, n5⟩ := lenS_ok hl
    obtain ⟨k, rfl⟩ : ∃ k : Nat, ln = (k : Int) := ⟨ln.toNat, by omega⟩
    rw [Int.toNat_natCast] at h
    obtain ⟨m1, x1, ho⟩ : ∃ a c, openedS (b.extract 0 k) = (a, c) := ⟨_, _, rfl⟩
    rw [ho] at h
    simp only at h
    by_cases hx1 : x1 = 0
    · subst hx1
      rw [if_neg (by decide)] at h
      simp only [Prod.mk.injEq] at h
      obtain ⟨rfl, rfl, _⟩ := h
      refine ⟨n3, n4, ?_⟩
      rw [Int.toNat_natCast]
      obtain ⟨l, rfl⟩ := bytesL b
      rw [sizeL] at n4
      rw [dataL]
      -- the piece
      have hpe : (⟨l.toArray⟩ : ByteArray).extract 0 k = ⟨(l.take k).toArray⟩ := by rw [extract_of, List.drop_zero]
      rw [hpe] at ho
      have hkl : (l.take k).length = k := by rw [List.length_take]; omega
      rcases l with _ | ⟨c, l'⟩
      · rw [List.length_nil] at n4; omega
      ·
        obtain ⟨k', rfl⟩ : ∃ k', k = k' + 1 := ⟨k - 1, by omega⟩
        rw [List.take_succ_cons] at ho hkl ⊢
        rw [List.length_cons] at n4 hkl
        -- the length's bytes
        have htn : toldN ⟨(c :: l').toArray⟩ = Oc.getN (l'.take 2) := by
          unfold toldN
          rw [extract_of, sizeL, List.take_length, List.drop_succ_cons, List.drop_zero]
          have := Oc.numS_eq ⟨l'.toArray⟩ 2 (by decide) (by decide)
          rw [show ((2 : Nat) : Int) = 2 from rfl] at this
          rw [this, if_neg (by rw [sizeL]; omega)]
        have hnum : l'.take 2 = Oc.numB 2 (k' + 1) := by
          have := numB_get (l'.take 2)
          rw [List.length_take, Nat.min_eq_left (by omega), ← htn] at this
          rw [← this]
          congr 1
          omega
        have hcut : l'.take k' = Oc.numB 2 (k' + 1) ++ (l'.take k').drop 2 := by
          have e := List.take_append_drop 2 (l'.take k')
          rw [List.take_take, Nat.min_eq_left (by omega), hnum] at e
          exact e.symm
        obtain ⟨rest, hrest⟩ : ∃ rest, rest = (l'.take k').drop 2 := ⟨_, rfl⟩
        have hrl : k' + 1 = 3 + rest.length := by rw [hrest, List.length_drop]; omega
        rw [← hrest] at hcut
        have hframe : c :: l'.take k' = frameB c rest := by
          unfold frameB
          rw [hcut, hrl]
        rw [hframe] at ho ⊢
        unfold openedS at ho
        rw [rest_frame] at ho
        have hF : hasB ⟨(frameB c rest).toArray⟩ fH = (c == 90) := hasL 90 c _
        rw [hF, sizeL, frameB_length] at ho
        by_cases hc : c = 90
        · subst hc
          rw [if_pos (show ((90 : UInt8) == 90) = true from rfl)] at ho
          have h1024 : 3 + rest.length ≤ 1024 := by
            unfold lenS at hl
            rw [show hasB ⟨((90 : UInt8) :: l').toArray⟩ fH = ((90 : UInt8) == 90) from hasL 90 90 _] at hl
            rw [if_neg (by rintro ⟨_, h1, _⟩; simp at h1)] at hl
            split at hl
            · simp at hl
            · split at hl
              · simp at hl
              · rename_i hno
                rw [← hrl]
                have : ¬ (1024 < toldN ⟨((90 : UInt8) :: l').toArray⟩) := fun hx => hno (.inr ⟨rfl, hx⟩)
                omega
          by_cases hz : notsB ⟨rest.toArray⟩ = true
          · rw [if_pos hz] at ho
            simp only [Prod.mk.injEq] at ho
            obtain ⟨rfl, _⟩ := ho
            rw [putO_fill _ (by omega) h1024]
            unfold notsB at hz
            have hz := of_decide_eq_true hz
            have hz2 := congrArg (fun s : ByteArray => s.data.toList) hz
            have hz3 : rest = List.replicate rest.length 0 := hz2
            unfold fillB
            rw [Nat.add_sub_cancel_left, ← hz3]
          · rw [if_neg hz] at ho
            simp at ho
        · rw [if_neg (by simpa using hc)] at ho
          have hc2 : c = 165 := by
            unfold lenS at hl
            rw [show hasB ⟨(c :: l').toArray⟩ fH = (c == 90) from hasL 90 c _, show hasB ⟨(c :: l').toArray⟩ rH = (c == 165) from hasL 165 c _, toListL] at hl
            by_cases h1 : (c == 165) = true
            · simpa using h1
            · rw [if_pos ⟨rfl, by simpa using hc, by simpa using h1⟩] at hl
              simp at hl
          subst hc2
          by_cases hz : Cr.openB ⟨rest.toArray⟩ = true
          · rw [if_pos hz] at ho
            by_cases hu : unpB (Cr.openS ⟨rest.toArray⟩) = true
            · rw [if_pos hu] at ho
              simp only [Prod.mk.injEq] at ho
              obtain ⟨rfl, _⟩ := ho
              obtain ⟨q1, q2, q3⟩ := unp_back hu
              have h4 : 4 ≤ (⟨rest.toArray⟩ : ByteArray).size := ((Cr.openB_def _).1 hz).1
              have hsl := (Cr.opens_iff h4).1 hz
              have hos : Cr.openS ⟨rest.toArray⟩ = (⟨rest.toArray⟩ : ByteArray).extract 4 (⟨rest.toArray⟩ : ByteArray).size := Cr.opened hz
              rw [← hos] at hsl
              have hsl2 : Cr.sealB (Cr.openS ⟨rest.toArray⟩) = rest := by
                have := congrArg (fun s : ByteArray => s.data.toList) hsl
                exact this
              unfold putO
              rw [if_pos q2, if_pos q3]
              unfold recB
              rw [← q1, hsl2]
            · rw [if_neg hu] at ho
              simp at ho
          · rw [if_neg hz] at ho
            simp at ho
    · rw [if_pos hx1] at h
      simp only [Prod.mk.injEq] at h
      exact absurd h.2.2 hx1
  · rw [if_pos hx] at h
    simp only [Prod.mk.injEq] at h
    exact absurd h.2.2 hx
theorem bare_eq {m : MsgM} (h : rightB m = true) (hk : m.kind = 0) : m = fillM m.body.size := by
  obtain ⟨f1, f2, f3, f4, f5⟩ := fill_body h hk
  obtain ⟨b1, b2, b3, b4, b5, b6⟩ := bare_bd f3
  obtain ⟨kind, queue, due, retry, ref, born, topic, tag, body, keys⟩ := m
  simp only at *
  have e0 : ∀ s : ByteArray, s.size = 0 → s = ⟨#[]⟩ := fun s hs => by
    obtain ⟨l, rfl⟩ := bytesL s
    rw [sizeL] at hs
    rw [List.length_eq_zero_iff.1 hs]
  subst hk b1 b2 b3 b4 f4 f5
  unfold fillM
  rw [e0 _ b5, e0 _ b6, ← f2]
/-- What was put is got: so unlike records have unlike bytes. -/
theorem put_get {m : MsgM} {s : List UInt8} (h : putO m = some s) (r : List UInt8) : getS ⟨(s ++ r).toArray⟩ = (m, (s.length : Int), 0) ∧ 3 ≤ s.length ∧ s.length ≤ 1100 ∧ toldN ⟨s.toArray⟩ = s.length ∧ rightB m = true := by
  unfold putO at h
  by_cases hr : rightB m = true
  · rw [if_pos hr] at h
    by_cases hk : m.kind = 0
    · rw [if_neg (by simpa using hk)] at h
      by_cases h3 : 3 ≤ m.body.size
      · rw [if_pos h3] at h
        obtain rfl := Option.some.inj h
        have h4 := (fill_body hr hk).1
        have hl : (fillB m.body.size).length = m.body.size := by
          unfold fillB
          rw [frameB_length, List.length_replicate]
          omega
        have := get_fill m.body.size r h3 h4
        rw [← bare_eq hr hk] at this
        refine ⟨by rw [hl]; exact this, by omega, by omega, ?_, hr⟩
        have ht := toldN_frame 90 (List.replicate (m.body.size - 3) 0) [] (by rw [List.length_replicate]; omega)
        rw [List.append_nil, List.length_replicate] at ht
        rw [hl]
        unfold fillB
        rw [ht]
        omega
      · rw [if_neg h3] at h
        cases h
    · rw [if_pos hk] at h
      obtain rfl := Option.some.inj h
      have hp := packB_le (right_bd hr hk)
      have hlen : (recB m).length = 3 + (Cr.sealB ⟨(packB m).toArray⟩).length := frameB_length _ _
      have hl : (Cr.sealB ⟨(packB m).toArray⟩).length = 4 + (packB m).length := by rw [Cr.sealB_length, sizeL]
      refine ⟨get_rec hr hk r, by omega, by omega, ?_, hr⟩
      have ht := toldN_frame 165 (Cr.sealB ⟨(packB m).toArray⟩) [] (by omega)
      rw [List.append_nil] at ht
      rw [hlen]
      exact ht
  · rw [if_neg hr] at h
    cases h
theorem put_inj {a b : MsgM} {s : List UInt8} (ha : putO a = some s) (hb : putO b = some s) : a = b := by
  have h1 := (put_get ha []).1
  rw [(put_get hb []).1] at h1
  exact (congrArg Prod.fst h1).symm
end Go.Proofs.YtelpkniockhjgaaGreat
