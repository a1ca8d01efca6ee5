/-
  What a filter wants, its text, and the filter of a text.
-/
import Derived.Test.YtdhpemkmfkcadaaDoorTagC
import Derived.Lib.IndexMore
import Derived.Lib.Join
namespace Go.Proofs.YtdhpemkmfkcadaaDoor
open Go.RowKit Go.ChangeMaps Go.WideShapes Go.Deep
set_option linter.unusedVariables false
set_option linter.unusedSimpArgs false

theorem FilAt.parts {w : World} {fb : Nat} {L : List ByteArray} (h : FilAt w fb L) :
    ∃ a c b d, w.cell? ⟨fb, 0, none⟩ = some (.slice a L.length c) ∧ w.cell? ⟨fb, 1, none⟩ = some (.slice b L.length d) ∧ Strs w 0 (.slice a L.length c) L ∧ Ints w (.slice b L.length d) (L.map hashB) ∧ L.length ≤ c := by
  obtain ⟨v0, v1, h1, h2, hcp, h3⟩ := h
  obtain ⟨a, c, rfl⟩ := h2.form
  obtain ⟨b, d, rfl, h4⟩ := id h3
  rw [List.length_map] at h1 h3
  exact ⟨a, c, b, d, by simp [World.cell?, h1], by simp [World.cell?, h1], h2, h3, hcp _ _ _ rfl⟩

theorem wall_any (fb : Nat) (L : List ByteArray) (x : Bool) (w : World) (h : FilAt w fb L) (hl : L.length ≤ 1000000) (hx : decide (L.length = 0) = x) :
    Calls Tryd.prog 13 #[.pointer (some ⟨fb, 0, none⟩)] w fun e w' => e = .returned (.bool x) ∧ w = w' := by
  obtain ⟨a, c, b, d, c0, _⟩ := h.parts
  obtain ⟨n, hn⟩ : ∃ n, n = L.length := ⟨_, rfl⟩
  rw [← hn] at c0 hx hl
  clear hn h
  go_enter Tryd.func13, Tryd.ntmps13
  go_wp2_with fail
  go_ret
  refine ⟨?_, rfl⟩
  rw [← hx]
  show Ending.returned (.bool ((n : Int) == 0)) = _
  congr 2
  rw [Bool.eq_iff_iff]
  simp

/-- Is it wanted? -/
def wantB (L : List ByteArray) (s : ByteArray) : Bool := decide (L.length = 0) || Lib.containsS L s
def quickB (L : List ByteArray) (h : Int) : Bool := decide (L.length = 0) || (L.map hashB).contains h
theorem contains_str (v : Value) (L : List ByteArray) (s : ByteArray) (w : World) (h : Strs w 0 v L) (hl : L.length ≤ 1000000) :
    Calls Tryd.prog 16 #[v, .string s] w fun e w' => e = .returned (.bool (Lib.containsS L s)) ∧ w = w' := by
  obtain ⟨a, c, rfl, h⟩ := h
  rcases h with rfl | ⟨b, o, rfl, _, h⟩
  · refine (Tryd.slices_Contains_string_empty a c s w).mono ?_
    rintro e w' ⟨he, rfl⟩
    exact ⟨he, rfl⟩
  · refine (Tryd.slices_Contains_string b o L.length c L s w (Nat.le_refl _) (by omega) h).mono ?_
    rintro e w' ⟨he, rfl⟩
    rw [List.take_length] at he
    exact ⟨he, rfl⟩
theorem contains_num (v : Value) (L : List Int) (s : Int) (w : World) (h : Ints w v L) (hl : L.length ≤ 1000000) :
    Calls Tryd.prog 15 #[v, .int .i64 s] w fun e w' => e = .returned (.bool (L.contains s)) ∧ w = w' := by
  obtain ⟨a, c, rfl, h⟩ := h
  rcases h with rfl | ⟨b, o, rfl, h⟩
  · refine (Tryd.slices_Contains_int_empty a c s w).mono ?_
    rintro e w' ⟨he, rfl⟩
    exact ⟨he, rfl⟩
  · refine (Tryd.slices_Contains_int b o L.length c L s w (Nat.le_refl _) (by omega) h).mono ?_
    rintro e w' ⟨he, rfl⟩
    rw [List.take_length] at he
    exact ⟨he, rfl⟩

theorem wants_nil (s : ByteArray) (w : World) : Calls Tryd.prog 9 #[.pointer none, .string s] w fun e w' => e = .returned (.bool false) ∧ w = w' := by
  go_enter Tryd.func9, Tryd.ntmps9
  go_wp2_with fail
  go_ret
  exact ⟨rfl, rfl⟩
theorem quick_nil (h : Int) (w : World) : Calls Tryd.prog 8 #[.pointer none, .int .i64 h] w fun e w' => e = .returned (.bool false) ∧ w = w' := by
  go_enter Tryd.func8, Tryd.ntmps8
  go_wp2_with fail
  go_ret
  exact ⟨rfl, rfl⟩
theorem text_nil (w : World) : Calls Tryd.prog 7 #[.pointer none] w fun e w' => e = .returned (.string ⟨#[]⟩) ∧ w = w' := by
  go_enter Tryd.func7, Tryd.ntmps7
  go_wp2_with fail
  go_ret
  exact ⟨rfl, rfl⟩
theorem of_nil (v : Value) (L : List ByteArray) (w : World) (hv : Strs w 0 v L) (hl : L.length ≤ 1000000) :
    Calls Tryd.prog 10 #[.pointer none, v] w fun e w' => e = .returned (.slice none 0 0) ∧ w = w' := by
  have HV := Lib.hid hv
  obtain ⟨a, cap, rfl⟩ := hv.form
  clear hv
  go_enter Tryd.func10, Tryd.ntmps10
  go_wp2_with fail
  go_loop [5, 10] (fun l i => l = .slice none 0 0 ∧ ∃ k : Nat, k ≤ L.length ∧ i = .int .i64 k) (fun _ i => L.length - (intOf i).toNat)
  case atStart => exact ⟨rfl, 0, Nat.zero_le _, rfl⟩
  case round =>
    obtain ⟨rfl, k, hk, rfl⟩ := hrel
    by_cases hlt : k < L.length
    · obtain ⟨b, o, rfl, hck⟩ := HV.out.cellAt hlt
      obtain ⟨s, hse⟩ : ∃ s, s = L.getD k ⟨#[]⟩ := ⟨_, rfl⟩
      rw [← hse] at hck
      clear hse
      go_wp2_with fail
      refine (wants_nil s _).mono ?_
      rintro e w1 ⟨rfl, rfl⟩
      go_wp2_with fail
      exact ⟨⟨rfl, k + 1, by omega, by go_num⟩, by simp [intOf]; omega⟩
    · go_wp2_with fail
      go_ret
      exact ⟨rfl, rfl⟩

theorem wants_any (fb : Nat) (L : List ByteArray) (s : ByteArray) (x : Bool) (w : World) (h : FilAt w fb L) (hl : L.length ≤ 1000000) (hx : wantB L s = x) :
    Calls Tryd.prog 9 #[.pointer (some ⟨fb, 0, none⟩), .string s] w fun e w' => e = .returned (.bool x) ∧ w = w' := by
  obtain ⟨a, c, b, d, c0, _, hs, _, hcap⟩ := h.parts
  obtain ⟨n, hn⟩ : ∃ n, n = L.length := ⟨_, rfl⟩
  rw [← hn] at c0 hs
  obtain ⟨y, hy⟩ : ∃ y, decide (L.length = 0) = y := ⟨_, rfl⟩
  have HW := Lib.hid (wall_any fb L y w h hl hy)
  have HC := Lib.hid (contains_str (.slice a n c) L s w hs hl)
  obtain ⟨z, hz⟩ : ∃ z, Lib.containsS L s = z := ⟨_, rfl⟩
  rw [hz] at HC
  have HX : Hid ((y || z) = x) := Lib.hid (by rw [← hx, wantB, hy, hz])
  clear hn h hs hl hx hy hz hcap
  go_enter Tryd.func9, Tryd.ntmps9
  go_wp2_with fail
  refine HW.out.mono ?_
  rintro e w1 ⟨rfl, rfl⟩
  cases y
  · go_wp2_with fail
    refine HC.out.mono ?_
    rintro e w1 ⟨rfl, rfl⟩
    go_wp2_with fail
    go_ret
    exact ⟨by rw [← HX.out]; rfl, rfl⟩
  · go_wp2_with fail
    go_ret
    exact ⟨by rw [← HX.out]; rfl, rfl⟩
theorem quick_any (fb : Nat) (L : List ByteArray) (s : Int) (x : Bool) (w : World) (h : FilAt w fb L) (hl : L.length ≤ 1000000) (hx : quickB L s = x) :
    Calls Tryd.prog 8 #[.pointer (some ⟨fb, 0, none⟩), .int .i64 s] w fun e w' => e = .returned (.bool x) ∧ w = w' := by
  obtain ⟨a, c, b, d, _, c0, _, hs, _⟩ := h.parts
  obtain ⟨n, hn⟩ : ∃ n, n = L.length := ⟨_, rfl⟩
  rw [← hn] at c0 hs
  obtain ⟨y, hy⟩ : ∃ y, decide (L.length = 0) = y := ⟨_, rfl⟩
  have HW := Lib.hid (wall_any fb L y w h hl hy)
  have HC := Lib.hid (contains_num (.slice b n d) (L.map hashB) s w hs (by rw [List.length_map]; exact hl))
  obtain ⟨z, hz⟩ : ∃ z, (L.map hashB).contains s = z := ⟨_, rfl⟩
  rw [hz] at HC
  have HX : Hid ((y || z) = x) := Lib.hid (by rw [← hx, quickB, hy, hz])
  clear hn h hs hl hx hy hz
  go_enter Tryd.func8, Tryd.ntmps8
  go_wp2_with fail
  refine HW.out.mono ?_
  rintro e w1 ⟨rfl, rfl⟩
  cases y
  · go_wp2_with fail
    refine HC.out.mono ?_
    rintro e w1 ⟨rfl, rfl⟩
    go_wp2_with fail
    go_ret
    exact ⟨by rw [← HX.out]; rfl, rfl⟩
  · go_wp2_with fail
    go_ret
    exact ⟨by rw [← HX.out]; rfl, rfl⟩

/-- What stands between tags. -/
def sepT : ByteArray := ⟨#[32, 124, 124, 32]⟩
/-- A filter's text. -/
def textF (L : List ByteArray) : ByteArray := if L.length = 0 then ⟨#[42]⟩ else ⟨(Lib.join (L.map (·.data.toList)) sepT.data.toList).toArray⟩
theorem text_any (fb : Nat) (L : List ByteArray) (t : ByteArray) (w : World) (h : FilAt w fb L) (hl : L.length ≤ 1000000) (hj : (Lib.join (L.map (·.data.toList)) sepT.data.toList).length ≤ 140737488355328) (ht : textF L = t) :
    Calls Tryd.prog 7 #[.pointer (some ⟨fb, 0, none⟩)] w fun e w' => e = .returned (.string t) ∧ Below w.heap.size w w' := by
  obtain ⟨a, c, b, d, c0, _, hs, _, hcap⟩ := h.parts
  obtain ⟨n, hn⟩ : ∃ n, n = L.length := ⟨_, rfl⟩
  obtain ⟨y, hy⟩ : ∃ y, decide (L.length = 0) = y := ⟨_, rfl⟩
  have HW := Lib.hid (wall_any fb L y w h hl hy)
  have HT := Lib.hid ht
  have HY := Lib.hid hy
  have HS := Lib.hid hs
  have HJ := Lib.hid hj
  have HN := Lib.hid hn
  have HCAP := Lib.hid hcap
  rw [← hn] at c0
  clear h hs hj ht hy hn hcap
  go_enter Tryd.func7, Tryd.ntmps7
  go_wp2_with fail
  refine HW.out.mono ?_
  rintro e w1 ⟨rfl, rfl⟩
  cases y
  · have hn0 : L.length ≠ 0 := of_decide_eq_false HY.out
    obtain ⟨bk, o, rfl, hk⟩ := HS.out.cellAt (i := 0) (by omega)
    have HJN := Lib.hid (Tryd.strings_Join bk o c L sepT w (fun j x hj => by
      obtain ⟨hjl, rfl⟩ := List.getElem?_eq_some_iff.1 hj
      obtain ⟨bk', o', e, hk'⟩ := HS.out.cellAt hjl
      cases e
      rw [hk', List.getD_eq_getElem?_getD, List.getElem?_eq_getElem hjl]
      rfl) (World.block_lt_of_cell? _ _ hk) (by omega) HCAP.out HJ.out)
    rw [← HN.out] at HJN
    have HT2 : Hid (⟨(Lib.join (L.map (·.data.toList)) sepT.data.toList).toArray⟩ = t) := Lib.hid (by rw [← HT.out, textF, if_neg hn0])
    rw [HT2.out] at HJN
    clear hk hn0
    go_wp2_with fail
    refine HJN.out.mono ?_
    rintro e w1 ⟨rfl, hb⟩
    go_wp2_with fail
    go_ret
    exact ⟨rfl, hb⟩
  · have h0 : L.length = 0 := of_decide_eq_true HY.out
    have ht : t = ⟨#[42]⟩ := by rw [← HT.out, textF, if_pos h0]
    subst ht
    clear h0
    go_wp2_with fail
    go_ret
    exact ⟨rfl, Below.refl _ _⟩

theorem join_cons2 (x y : List UInt8) (r : List (List UInt8)) (sep : List UInt8) : Lib.join (x :: y :: r) sep = x ++ sep ++ Lib.join (y :: r) sep := by
  rw [Lib.join_cons, Lib.join_cons]
  unfold Lib.joinTail
  simp [List.append_assoc]
theorem occ_split {s sub : List UInt8} {i : Nat} (h : Lib.occAt s sub i = true) : s.take i ++ sub ++ s.drop (i + sub.length) = s := by
  unfold Lib.occAt at h
  rw [List.isPrefixOf_iff_prefix] at h
  obtain ⟨t, ht⟩ := h
  have h2 : s.drop (i + sub.length) = t := by rw [← List.drop_drop, ← ht, List.drop_left]
  rw [h2, List.append_assoc, ht, List.take_append_drop]
theorem splitK_ne (sep : List UInt8) (k : Nat) (s : List UInt8) : ∃ a r, Lib.splitK sep 0 k s = a :: r := by
  cases k with
  | zero => exact ⟨_, _, rfl⟩
  | succ k =>
    unfold Lib.splitK
    split
    · exact ⟨_, _, rfl⟩
    · exact ⟨_, _, rfl⟩
theorem join_splitK (sep : List UInt8) : ∀ (k : Nat) (s : List UInt8), Lib.join (Lib.splitK sep 0 k s) sep = s
  | 0, s => Lib.join_one s sep
  | k + 1, s => by
    unfold Lib.splitK
    split
    · exact Lib.join_one s sep
    · rename_i h
      rcases Lib.index_spec s sep with ⟨h1, _⟩ | ⟨i, h1, hi, ho, _⟩
      · rw [h1] at h; simp at h
      · have e : (Lib.index s sep).toNat = i := by rw [h1]; rfl
        rw [e, Nat.add_zero]
        have ih := join_splitK sep k (s.drop (i + sep.length))
        obtain ⟨a, r, har⟩ := splitK_ne sep k (s.drop (i + sep.length))
        rw [har] at ih ⊢
        rw [join_cons2, ih]
        exact occ_split ho
/-- The pieces of a text. -/
def pieces (s : ByteArray) : List ByteArray := Lib.splitB sepT 0 (min 5 (s.size + 1) - 1) s
theorem pieces_ne (s : ByteArray) : 1 ≤ (pieces s).length ∧ (pieces s).length ≤ 5 := by
  constructor
  · unfold pieces
    cases min 5 (s.size + 1) - 1 with
    | zero => simp [Lib.splitB]
    | succ k => unfold Lib.splitB; split <;> simp
  · have := Lib.splitB_length_le sepT 0 (min 5 (s.size + 1) - 1) s
    unfold pieces
    omega
theorem pieces_join (s : ByteArray) : Lib.join ((pieces s).map (·.data.toList)) sepT.data.toList = s.data.toList := by
  unfold pieces
  rw [Lib.splitB_data]
  exact join_splitK _ _ _
theorem pieces_small (s : ByteArray) : ∀ t ∈ pieces s, t.size ≤ s.size := by
  have h : ∀ (k : Nat) (s : ByteArray), ∀ t ∈ Lib.splitB sepT 0 k s, t.size ≤ s.size := by
    intro k
    induction k with
    | zero => intro s t ht; rw [Lib.splitB_zero, List.mem_singleton] at ht; rw [ht]; exact Nat.le_refl _
    | succ k ih =>
      intro s t ht
      unfold Lib.splitB at ht
      split at ht
      · rw [List.mem_singleton] at ht; rw [ht]; exact Nat.le_refl _
      · rcases List.mem_cons.1 ht with rfl | ht
        · rw [ByteArray.size_extract]; omega
        · have := ih _ t ht
          rw [ByteArray.size_extract] at this
          omega
  exact h _ s
/-- The tags of a text. -/
def parseL (s : ByteArray) : List ByteArray := if s = ⟨#[42]⟩ then [] else pieces s
theorem parse_text (s : ByteArray) : textF (parseL s) = s ∧ (Lib.join ((parseL s).map (·.data.toList)) sepT.data.toList).length ≤ s.size := by
  unfold parseL
  split
  · rename_i h
    subst h
    exact ⟨rfl, Nat.zero_le _⟩
  · rw [pieces_join]
    refine ⟨?_, Nat.le_refl _⟩
    unfold textF
    rw [if_neg (by have := (pieces_ne s).1; omega), pieces_join]
def ParseTo (w : World) (s : ByteArray) (e : Ending) (w' : World) : Prop :=
  Below w.heap.size w w' ∧ ∃ p x, e = .returned (.tuple #[.pointer p, .int .i64 x]) ∧ (newE (parseL s) = 0 → x = 0 ∧ ∃ fb, p = some ⟨fb, 0, none⟩ ∧ FilAt w' fb (parseL s)) ∧ (newE (parseL s) ≠ 0 → x = 4 ∧ p = none)
theorem cells_strs (w : World) (P : List ByteArray) (N : Nat) (h : P.length ≤ N) : Strs (w.alloc (.cells (Lib.cellsOf P N) 9)) 0 (.slice (some ⟨w.heap.size, 0, none⟩) P.length N) P := by
  refine ⟨_, _, rfl, .inr ⟨_, _, rfl, Nat.zero_le _, fun i hi => ?_⟩⟩
  have h1 : (w.alloc (.cells (Lib.cellsOf P N) 9)).heap[w.heap.size]? = some (.cells (Lib.cellsOf P N) 9 (0, 0)) := heap_alloc_new w _
  simp only [World.cell?, h1]
  simp [Lib.cellsOf, List.getElem?_append, hi, List.getD_eq_getElem?_getD]
theorem newE_nil : newE [] = 0 := by decide
set_option maxHeartbeats 1000000 in
theorem parse_any (s : ByteArray) (m : Int) (w : World) (hm : w.cell? ⟨0, 0, none⟩ = some (.int .i64 m)) (hs : s.size ≤ 1000) :
    Calls Tryd.prog 6 #[.string s] w (ParseTo w s) := by
  by_cases h : s = ⟨#[42]⟩
  · subst h
    have hL : parseL ⟨#[42]⟩ = [] := by unfold parseL; rw [if_pos rfl]
    have HN := Lib.hid (new_any (.slice none 0 0) [] 0 w ⟨none, 0, rfl, .inl rfl⟩ (Nat.zero_le _) (fun t ht => by cases ht) newE_nil)
    go_enter Tryd.func6, Tryd.ntmps6
    go_wp2_with fail
    refine HN.out.mono ?_
    rintro e w1 ⟨hb, p, rfl, hp, _⟩
    go_wp2_with fail
    go_ret2
    exact ⟨hb, p, 0, rfl, fun _ => ⟨rfl, by rw [hL]; first | exact hp rfl | exact hp trivial⟩, fun h => absurd (by rw [hL]; exact newE_nil) h⟩
  · have hL : parseL s = pieces s := by unfold parseL; rw [if_neg h]
    have hne : (s.toList == [42]) = false := by
      rw [show ([42] : List UInt8) = (⟨#[42]⟩ : ByteArray).toList from by decide +kernel, Lib.bytes_beq_false_iff]; exact h
    have HSP := Lib.hid (Tryd.strings_SplitN s sepT 5 m w (by omega) hm (by decide) (by decide) (by decide))
    obtain ⟨N, hN⟩ : ∃ N, N = min 5 (s.size + 1) := ⟨_, rfl⟩
    obtain ⟨P, hP⟩ : ∃ P, P = pieces s := ⟨_, rfl⟩
    have hP' : Lib.splitB sepT 0 (min 5 (s.size + 1) - 1) s = P := hP.symm
    rw [hP', ← hN] at HSP
    have hPl := pieces_ne s
    have hPs := pieces_small s
    have hPN : P.length ≤ N := by
      have := Lib.splitB_length_le sepT 0 (min 5 (s.size + 1) - 1) s
      rw [hP'] at this
      omega
    rw [← hP] at hL hPl hPs
    obtain ⟨x, hx⟩ : ∃ x, newE P = x := ⟨_, rfl⟩
    have HNW := Lib.hid (new_any (.slice (some ⟨w.heap.size, 0, none⟩) P.length N) P x (w.alloc (.cells (Lib.cellsOf P N) 9)) (cells_strs w P N hPN) (by omega) (fun t ht => by have := hPs t ht; unfold maxLen; omega) hx)
    have HL := Lib.hid hL
    have HX := Lib.hid hx
    clear hN hP hP' hPs hPl hPN hx hL hm hs
    go_enter Tryd.func6, Tryd.ntmps6
    go_wp2_with fail
    refine HSP.out.mono ?_
    rintro e w1 ⟨rfl, rfl⟩
    go_wp2_with fail
    refine HNW.out.mono ?_
    rintro e w1 ⟨hb, p, rfl, hp1, hp2⟩
    have HB : Hid (Below w.heap.size w w1) := Lib.hid (((Below.refl _ _).alloc (Nat.le_refl _) _).trans (hb.mono (by simp [go_sem])))
    have HP1 := Lib.hid hp1
    have HP2 := Lib.hid hp2
    clear hb hp1 hp2
    by_cases h0 : x = 0
    · subst h0
      go_wp2_with fail
      go_ret2
      exact ⟨HB.out, p, 0, rfl, fun _ => ⟨rfl, by rw [HL.out]; first | exact HP1.out rfl | exact HP1.out trivial⟩, fun h => absurd (by rw [HL.out]; exact HX.out) h⟩
    · have H0 := Lib.hid h0
      have hp := HP2.out h0
      subst hp
      go_wp2_with fail
      go_ret2
      exact ⟨HB.out, none, 4, rfl, fun h => absurd (by rw [← HX.out, ← HL.out]; exact h) H0.out, fun _ => ⟨rfl, rfl⟩⟩
end Go.Proofs.YtdhpemkmfkcadaaDoor
