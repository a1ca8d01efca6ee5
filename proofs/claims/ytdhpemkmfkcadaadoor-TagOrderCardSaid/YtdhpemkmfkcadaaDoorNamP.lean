/-
  Which texts have only signs of some spans; the contracts of signs, plainSigns, made, Plain, Group, Key.
-/
import Derived.Test.YtdhpemkmfkcadaaDoorNamS
import Derived.WalkSmall
namespace Go.Proofs.YtdhpemkmfkcadaaDoor
open Go.RowKit Go.Deep

/-- A text has from 1 to n bytes, each in one of the spans. -/
def okL (L : List (Int × Int)) (n : Nat) (s : ByteArray) : Bool := decide (1 ≤ s.size) && decide (s.size ≤ n) && s.data.toList.all fun c => inL L c.toNat
theorem okL_iff {L : List (Int × Int)} {n : Nat} {s : ByteArray} : okL L n s = true ↔ 1 ≤ s.size ∧ s.size ≤ n ∧ ∀ i (h : i < s.size), inL L (s[i]'h).toNat = true := by
  unfold okL
  simp only [Bool.and_eq_true, decide_eq_true_eq, List.all_eq_true, and_assoc]
  refine and_congr_right fun _ => and_congr_right fun _ => ⟨fun h i hi => h _ (by simp [ByteArray.getElem_eq_getElem_data]), fun h c hc => ?_⟩
  obtain ⟨i, hi, rfl⟩ := List.getElem_of_mem hc
  exact h i (by simpa using hi)
theorem okL_true {L : List (Int × Int)} {n : Nat} {s : ByteArray} (h1 : 1 ≤ s.size) (h2 : s.size ≤ n) (h : ∀ i (h : i < s.size), inL L (s[i]'h).toNat = true) : okL L n s = true := okL_iff.2 ⟨h1, h2, h⟩
theorem okL_none {L : List (Int × Int)} {n : Nat} {s : ByteArray} (h : ¬ 1 ≤ s.size) : okL L n s = false := by
  rw [← Bool.not_eq_true, okL_iff]; exact fun k => h k.1
theorem okL_long {L : List (Int × Int)} {n : Nat} {s : ByteArray} (h : ¬ s.size ≤ n) : okL L n s = false := by
  rw [← Bool.not_eq_true, okL_iff]; exact fun k => h k.2.1
theorem okL_at {L : List (Int × Int)} {n : Nat} {s : ByteArray} {i : Nat} (hi : i < s.size) (h : inL L (s[i]'hi).toNat = false) : okL L n s = false := by
  rw [← Bool.not_eq_true, okL_iff]; intro k; rw [k.2.2 i hi] at h; cases h

/-- A question of these spans was made. -/
def IsMay (L : List (Int × Int)) (w : World) (e : Ending) (w' : World) : Prop :=
  ∃ b, e = .returned (.func (.func 44) #[] #[.pointer (some ⟨b, 0, none⟩)]) ∧ Spans w' b L ∧ Below w.heap.size w w'

theorem signs_any (L : List (Int × Int)) (c o cap : Nat) (w : World) (hl : L.length ≤ 1000)
    (hs : ∀ i, i < L.length → w.cell? ⟨c, o + i * 2, none⟩ = some (.int .i32 (L.getD i (0, 0)).1) ∧ w.cell? ⟨c, o + i * 2 + 1, none⟩ = some (.int .i32 (L.getD i (0, 0)).2)) :
    Calls Tryd.prog 37 #[.slice (some ⟨c, o, none⟩) L.length cap] w (IsMay L w) := by
  have hmf : ∀ (fn : Fn) (first cap : Array Value) (w : World), (Instr.makeFunc fn first cap).run Tryd.prog w = .ok (.func fn first cap) w := fun _ _ _ _ => rfl
  have HS := Lib.hid hs
  clear hs
  go_enter Tryd.func37, Tryd.ntmps37
  go_wp2_with fail
  go_ret
  refine ⟨w.heap.size, rfl, ⟨hl, c, o, cap, by simp [go_sem], fun i hi => ?_⟩, (Below.refl _ _).alloc (Nat.le_refl _) _⟩
  obtain ⟨h1, h2⟩ := HS.out i hi
  have hb := (Below.refl w.heap.size w).alloc (Nat.le_refl _) (.cells #[.slice (some ⟨c, o, none⟩) L.length cap] 78)
  exact ⟨(hb.cell (World.block_lt_of_cell? _ _ h1)).trans h1, (hb.cell (World.block_lt_of_cell? _ _ h2)).trans h2⟩

def plainL : List (Int × Int) := [(97, 122), (48, 57), (45, 45)]
def keyL : List (Int × Int) := [(33, 126)]

theorem plainSigns_any (w : World) : Calls Tryd.prog 30 #[] w (IsMay plainL w) := by
  go_enter Tryd.func30, Tryd.ntmps30
  go_wp2_with fail
  refine (signs_any plainL w.heap.size 0 3 _ (by decide) (fun i hi => by
    match i, hi with
    | 0, _ => simp [plainL, go_sem]
    | 1, _ => simp [plainL, go_sem]
    | 2, _ => simp [plainL, go_sem])).mono ?_
  rintro e w' ⟨b, rfl, hs, hb⟩
  have HS := Lib.hid hs
  have HB := Lib.hid hb
  clear hs hb
  go_wp2_with fail
  go_ret
  exact ⟨b, rfl, HS.out, ((Below.refl w.heap.size w).alloc (Nat.le_refl _) _).trans (HB.out.mono (by simp [go_sem]))⟩

/-- What the range hands over at a byte: a sign that lies in the spans just if the byte does, and then is one byte. -/
theorem next_sign {L : List (Int × Int)} (hL : ∀ r, inL L r = true → r < 128) (s : ByteArray) (pos : Nat) (h : pos < s.size) :
    ∃ (c : Int) (d : Nat), 0 ≤ c ∧ c ≤ 2147483647 ∧ (inL L c = true → d = 1 ∧ inL L (s[pos]'h).toNat = true) ∧ (inL L c = false → inL L (s[pos]'h).toNat = false) ∧
      ((Utf8.decode s pos).1 : Int) = c ∧ (Utf8.decode s pos).2 = d := by
  refine ⟨_, _, Int.natCast_nonneg _, by have := decode_le s pos; omega, ?_, ?_, rfl, rfl⟩
  · intro hc
    by_cases ha : (s[pos]'h).toNat < 128
    · rw [decode_ascii s pos h ha] at hc ⊢
      exact ⟨rfl, hc⟩
    · have := (decode_high s pos h (by omega)).1
      have := hL _ hc
      omega
  · intro hc
    by_cases ha : (s[pos]'h).toNat < 128
    · rw [decode_ascii s pos h ha] at hc
      exact hc
    · rw [← Bool.not_eq_true]
      intro hk
      have := hL _ hk
      omega

theorem iter_new (w : World) (s : ByteArray) : (w.iter s 0).heap[w.heap.size]? = some (.stringIter s 0) := World.iter_heap w s 0

theorem empty_of {s : ByteArray} (h : ¬ 1 ≤ s.size) : s.toList.isEmpty = true := by
  rw [ByteArray.toList_eq, List.isEmpty_iff, ← List.length_eq_zero_iff]
  have : s.data.toList.length = s.size := rfl
  omega
theorem some_of {s : ByteArray} (h : 1 ≤ s.size) : s.toList.isEmpty = false := by
  rw [ByteArray.toList_eq, List.isEmpty_eq_false_iff, ← List.length_pos_iff]
  exact h

set_option maxRecDepth 100000 in
theorem made_any (L : List (Int × Int)) (hL : ∀ r, inL L r = true → r < 128) (b n : Nat) (s : ByteArray) (w : World) (h : Spans w b L) (hs : s.size ≤ maxLen) (hn : n ≤ 1000) :
    Calls Tryd.prog 29 #[.string s, .int .i64 n, .func (.func 44) #[] #[.pointer (some ⟨b, 0, none⟩)]] w fun e w' => e = .returned (.bool (okL L n s)) ∧ Below w.heap.size w w' := by
  unfold maxLen at hs
  have HL := Lib.hid hL
  have HP := Lib.hid h
  have HI := Lib.hid (iter_new w s)
  have HB0 : Hid (Below w.heap.size w (w.iter s 0)) := Lib.hid ((Below.refl _ _).alloc (Nat.le_refl _) _)
  clear hL h
  by_cases h1 : 1 ≤ s.size
  · have he := some_of h1
    by_cases h2 : s.size ≤ n
    · have hd : decide (n < s.size) = false := by simpa using h2
      go_enter Tryd.func29, Tryd.ntmps29
      go_wp2_with fail
      go_loopw [6] (fun x wr => ∃ pos : Nat, pos ≤ s.size ∧ wr.heap[w.heap.size]? = some (.stringIter s pos) ∧ Below w.heap.size w wr ∧ ∀ i (h : i < s.size), i < pos → inL L (s[i]'h).toNat = true) (fun _ wr => s.size - wr.iterPos w.heap.size)
      case atStart => exact ⟨0, Nat.zero_le _, HI.out, HB0.out, fun i h hi => by omega⟩
      case round =>
        obtain ⟨pos, hpos, hit, hb, hok⟩ := hrel
        have HB := Lib.hid hb
        have HOK := Lib.hid hok
        have HIT := Lib.hid hit
        clear hb hok
        by_cases hlt : pos < s.size
        · obtain ⟨c, d, hc0, hc1, hyes, hno, hce, hde⟩ := next_sign HL.out s pos hlt
          have hnx := fun ty => Lib.run_next_any_at (P := Tryd.prog) wr w.heap.size s pos ty hit hlt
          rw [hce, hde] at hnx
          have HY := Lib.hid hyes
          have HN := Lib.hid hno
          clear hyes hno hce hde hit
          have HB2 := Lib.hid (Lib.below_iterAt HB.out (Nat.le_refl _) s (pos + d))
          have HP2 := Lib.hid (HP.out.below HB2.out (Nat.le_refl _))
          have HI2 := Lib.hid (Lib.iterAt_heap wr w.heap.size s pos (pos + d) HIT.out)
          obtain ⟨w2, hw2⟩ : ∃ w2, w2 = wr.iterAt w.heap.size s (pos + d) := ⟨_, rfl⟩
          rw [← hw2] at hnx HB2 HP2 HI2
          clear hw2
          go_wp2_with fail
          refine (sign_any L b c _ HP2.out).mono ?_
          rintro e w' ⟨rfl, hb⟩
          have HB3 := Lib.hid (HB2.out.trans (hb.mono HB2.out.size))
          have HI3 : Hid (w'.heap[w.heap.size]? = some (.stringIter s (pos + d))) := Lib.hid ((hb.block _ (Array.getElem?_eq_some_iff.1 HI2.out).1).trans HI2.out)
          clear hb
          by_cases hin : inL L c = true
          · have HIN := Lib.hid hin
            rw [hin]
            clear hin
            go_wp2_with fail
            obtain ⟨rfl, hk⟩ := HY.out HIN.out
            refine ⟨⟨pos + 1, by omega, HI3.out, HB3.out, fun i h hi => ?_⟩, ?_⟩
            · by_cases hip : i = pos
              · subst hip
                exact hk
              · exact HOK.out i h (by omega)
            · have e1 : wr.iterPos w.heap.size = pos := iterPos_of HIT.out
              have e2 : w'.iterPos w.heap.size = pos + 1 := iterPos_of HI3.out
              rw [e1, e2]
              omega
          · rw [Bool.not_eq_true] at hin
            have HIN := Lib.hid hin
            rw [hin]
            clear hin
            go_wp2_with fail
            go_ret
            exact ⟨by rw [okL_at hlt (HN.out HIN.out)]; rfl, HB3.out⟩
        · have hnx := fun ty => Lib.run_next_end_at (P := Tryd.prog) wr w.heap.size s pos ty hit hlt
          clear hit
          go_wp2_with fail
          go_ret
          exact ⟨by rw [okL_true h1 h2 (fun i h => HOK.out i h (by omega))]; rfl, HB.out⟩
    · go_enter Tryd.func29, Tryd.ntmps29
      go_wp2_with fail
      go_ret
      exact ⟨by rw [okL_long h2]; rfl, Below.refl _ _⟩
  · have he := empty_of h1
    go_enter Tryd.func29, Tryd.ntmps29
    go_wp2_with fail
    go_ret
    exact ⟨by rw [okL_none h1]; rfl, Below.refl _ _⟩

theorem plainL_lt (r : Int) (h : inL plainL r = true) : r < 128 := by
  simp [inL, plainL] at h
  omega
theorem keyL_lt (r : Int) (h : inL keyL r = true) : r < 128 := by
  simp [inL, keyL] at h
  omega

def plainB (s : ByteArray) : Bool := okL plainL 16 s
def groupB (s : ByteArray) : Bool := okL plainL 8 s
def keyB (s : ByteArray) : Bool := okL keyL 16 s

theorem plain_any (s : ByteArray) (w : World) (hs : s.size ≤ maxLen) : Calls Tryd.prog 18 #[.string s] w fun e w' => e = .returned (.bool (plainB s)) ∧ Below w.heap.size w w' := by
  go_enter Tryd.func18, Tryd.ntmps18
  go_wp2_with fail
  refine (plainSigns_any _).mono ?_
  rintro e w1 ⟨b, rfl, hp, hb⟩
  have HP := Lib.hid hp
  have HB := Lib.hid hb
  clear hp hb
  go_wp2_with fail
  refine (made_any plainL plainL_lt b 16 s _ HP.out hs (by omega)).mono ?_
  rintro e w2 ⟨rfl, hb⟩
  have HB2 := Lib.hid (HB.out.trans (hb.mono HB.out.size))
  clear hb
  go_wp2_with fail
  go_ret
  exact ⟨rfl, HB2.out⟩

end Go.Proofs.YtdhpemkmfkcadaaDoor
