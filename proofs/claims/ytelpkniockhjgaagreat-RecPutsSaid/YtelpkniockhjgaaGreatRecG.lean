/-
  What was sealed, read: a record, or none.
-/
import Derived.Test.YtelpkniockhjgaaGreatRecQ
import Derived.Test.YtelpkniockhjgaaGreatTextF
namespace Go.Proofs.YtelpkniockhjgaaGreat
open Go.RowKit Go.Deep
set_option linter.unusedVariables false
set_option linter.unusedSimpArgs false

/-- A block that holds a record. -/
def Box (w : World) (b : Nat) (cs : Array Value) : Prop := w.heap[b]? = some (.cells cs 24 (0, 0))
theorem Box.lt {w : World} {b : Nat} {cs : Array Value} (h : Box w b cs) : b < w.heap.size := (Array.getElem?_eq_some_iff.1 h).1
theorem Box.cell {w : World} {b : Nat} {cs : Array Value} (h : Box w b cs) (i : Nat) : w.cell? ⟨b, i, none⟩ = cs[i]? := by
  unfold Box at h
  unfold World.cell?
  simp only [h]
  simp
theorem Box.free {w : World} {b : Nat} {cs : Array Value} (h : Box w b cs) (i : Nat) : w.frozen? ⟨b, i, none⟩ = false := by
  unfold Box at h
  simp [World.frozen?, h]
theorem Box.set {w : World} {b : Nat} {cs : Array Value} (h : Box w b cs) (i : Nat) (v : Value) : Box (w.setCell ⟨b, i, none⟩ v) b (cs.setIfInBounds i v) := by
  unfold Box at *
  unfold World.setCell
  simp [h, Array.getElem?_modify]
theorem Box.setO {w : World} {b b' : Nat} {cs : Array Value} (h : Box w b cs) (hb : b ≠ b') (i : Nat) (v : Value) : Box (w.setCell ⟨b', i, none⟩ v) b cs := by
  unfold Box at *
  rw [Below.heap_setCell _ _ _ _ (by simpa using hb)]
  exact h
theorem Box.grown {w w' : World} {b r : Nat} {cs : Array Value} (h : Box w b cs) (hg : w.grownBy w' (some r)) (hb : b ≠ r) : Box w' b cs := (hg.block b h.lt (by simpa using hb)).trans h
theorem Box.below {w w' : World} {b B : Nat} {cs : Array Value} (h : Box w b cs) (hg : Below B w w') (hb : b < B) : Box w' b cs := by
  unfold Box at *
  rw [hg.block b hb]
  exact h
theorem Box.new (w : World) (cs : Array Value) : Box (w.alloc (.cells cs 24)) w.heap.size cs := heap_alloc_new w _
theorem Box.alloc {w : World} {b : Nat} {cs : Array Value} (h : Box w b cs) (o : Obj) : Box (w.alloc o) b cs := (Below.heap_alloc w o b h.lt).trans h
def zc : Array Value := #[.int .i64 0, .int .i64 0, .int .i64 0, .int .i64 0, .int .i64 0, .int .i64 0, .string ⟨#[]⟩, .string ⟨#[]⟩, .string ⟨#[]⟩, .slice none 0 0]
def zeroM : MsgM := ⟨0, 0, 0, 0, 0, 0, ⟨#[]⟩, ⟨#[]⟩, ⟨#[]⟩, []⟩
theorem strs_set {w : World} {B b : Nat} {v : Value} {ts : List ByteArray} (h : Strs w B v ts) (hb : b < B) (i : Nat) (u : Value) : Strs (w.setCell ⟨b, i, none⟩ u) B v ts := by
  obtain ⟨a, cap, rfl, h⟩ := h
  refine ⟨a, cap, rfl, ?_⟩
  rcases h with h | ⟨c, o, rfl, hc, h⟩
  · exact .inl h
  · refine .inr ⟨c, o, rfl, hc, fun k hk => ?_⟩
    exact (World.cell?_of_block (Below.heap_setCell _ _ _ _ (by show c ≠ b; omega))).trans (h k hk)
def set10 (w : World) (P : Nat) (c0 c1 c2 c3 c4 c5 c6 c7 c8 c9 : Value) : World :=
  (((((((((w.setCell ⟨P, 0, none⟩ c0).setCell ⟨P, 1, none⟩ c1).setCell ⟨P, 2, none⟩ c2).setCell ⟨P, 3, none⟩ c3).setCell ⟨P, 4, none⟩ c4).setCell ⟨P, 5, none⟩ c5).setCell ⟨P, 6, none⟩ c6).setCell ⟨P, 7, none⟩ c7).setCell ⟨P, 8, none⟩ c8).setCell ⟨P, 9, none⟩ c9
theorem box_set10 {w : World} {P : Nat} (h : Box w P zc) (c0 c1 c2 c3 c4 c5 c6 c7 c8 c9 : Value) : Box (set10 w P c0 c1 c2 c3 c4 c5 c6 c7 c8 c9) P #[c0, c1, c2, c3, c4, c5, c6, c7, c8, c9] := by
  have h1 := (((((((((h.set 0 c0).set 1 c1).set 2 c2).set 3 c3).set 4 c4).set 5 c5).set 6 c6).set 7 c7).set 8 c8).set 9 c9
  have e : (((((((((zc.setIfInBounds 0 c0).setIfInBounds 1 c1).setIfInBounds 2 c2).setIfInBounds 3 c3).setIfInBounds 4 c4).setIfInBounds 5 c5).setIfInBounds 6 c6).setIfInBounds 7 c7).setIfInBounds 8 c8).setIfInBounds 9 c9 = #[c0, c1, c2, c3, c4, c5, c6, c7, c8, c9] := by
    simp [zc]
  rw [e] at h1
  exact h1
theorem below_set10 {w wk : World} {B P : Nat} (h : Below B w wk) (hp : B ≤ P) (c0 c1 c2 c3 c4 c5 c6 c7 c8 c9 : Value) : Below B w (set10 wk P c0 c1 c2 c3 c4 c5 c6 c7 c8 c9) :=
  (((((((((h.setCell hp c0).setCell hp c1).setCell hp c2).setCell hp c3).setCell hp c4).setCell hp c5).setCell hp c6).setCell hp c7).setCell hp c8).setCell hp c9
theorem strs_set10 {w : World} {B P : Nat} {v : Value} {ts : List ByteArray} (h : Strs w B v ts) (hb : P < B) (c0 c1 c2 c3 c4 c5 c6 c7 c8 c9 : Value) : Strs (set10 w P c0 c1 c2 c3 c4 c5 c6 c7 c8 c9) B v ts :=
  strs_set (strs_set (strs_set (strs_set (strs_set (strs_set (strs_set (strs_set (strs_set (strs_set h hb _ _) hb _ _) hb _ _) hb _ _) hb _ _) hb _ _) hb _ _) hb _ _) hb _ _) hb _ _
/-- A number off what is left, if nothing was wrong yet. -/
def numR (s : ByteArray) (x : Int) (n : Int) : Nat × ByteArray × Int := if x = 0 then ((Oc.numS s n).1, Oc.goS s (Oc.numS s n).2.1 (Oc.numS s n).2.2, (Oc.numS s n).2.2) else (0, s, x)
def textR (s : ByteArray) (x : Int) (n : Int) : ByteArray × ByteArray × Int := if x = 0 then ((Oc.textS s n).1, Oc.goS s (Oc.textS s n).2.1 (Oc.textS s n).2.2, (Oc.textS s n).2.2) else (⟨#[]⟩, s, x)
def listR (s : ByteArray) (x : Int) (n k : Int) : List ByteArray × ByteArray × Int := if x = 0 then ((Oc.listS s n k).1, Oc.goS s (Oc.listS s n k).2.1 (Oc.listS s n k).2.2, (Oc.listS s n k).2.2) else ([], s, x)
/-- While it is read. -/
structure UI (w wk : World) (P R M : Nat) (cs : Array Value) (s : ByteArray) (x : Int) : Prop where
  rd : Oc.Rd wk R s x
  box : Box wk M cs
  zero : Box wk P zc
  bel : Below w.heap.size w wk
  rm : R ≠ M
  pr : P ≠ R
  pm : P ≠ M
  p0 : w.heap.size ≤ P
  r0 : w.heap.size ≤ R
  m0 : w.heap.size ≤ M
  pl : P < M
theorem UI.read {w wk w' : World} {P R M : Nat} {cs : Array Value} {s s' : ByteArray} {x x' : Int} (h : UI w wk P R M cs s x) (hr : Oc.Rd w' R s' x') (hg : wk.grownBy w' (some R)) : UI w w' P R M cs s' x' :=
  ⟨hr, h.box.grown hg h.rm.symm, h.zero.grown hg h.pr, below_grown' h.bel hg (Nat.le_refl _) h.r0, h.rm, h.pr, h.pm, h.p0, h.r0, h.m0, h.pl⟩
theorem UI.set {w wk : World} {P R M : Nat} {cs : Array Value} {s : ByteArray} {x : Int} (h : UI w wk P R M cs s x) (i : Nat) (v : Value) : UI w (wk.setCell ⟨M, i, none⟩ v) P R M (cs.setIfInBounds i v) s x := by
  refine ⟨?_, h.box.set i v, h.zero.setO h.pm i v, h.bel.setCell h.m0 v, h.rm, h.pr, h.pm, h.p0, h.r0, h.m0, h.pl⟩
  have := h.rd
  unfold Oc.Rd at *
  rw [Below.heap_setCell _ _ _ _ (by simpa using h.rm)]
  exact this
def NumTo (w : World) (P R M : Nat) (cs : Array Value) (v : Nat) (s : ByteArray) (x : Int) (e : Ending) (w' : World) : Prop := e = .returned (.int .i64 v) ∧ UI w w' P R M cs s x
theorem num_at {w wk : World} {P R M : Nat} {cs : Array Value} {s s' : ByteArray} {x x' n : Int} {v : Nat} (h : UI w wk P R M cs s x) (hc : numR s x n = (v, s', x')) :
    Calls Tryz.prog 56 #[.pointer (some ⟨R, 0, none⟩), .int .i64 n] wk (NumTo w P R M cs v s' x') := by
  unfold numR at hc
  by_cases hx : x = 0
  · subst hx
    rw [if_pos rfl] at hc
    simp only [Prod.mk.injEq] at hc
    obtain ⟨rfl, rfl, rfl⟩ := hc
    refine (Oc.num_any R s n wk h.rd rfl).mono ?_
    rintro e w' ⟨rfl, hr, hg⟩
    exact ⟨rfl, h.read hr hg⟩
  · rw [if_neg hx] at hc
    simp only [Prod.mk.injEq] at hc
    obtain ⟨rfl, rfl, rfl⟩ := hc
    refine (Oc.num_none R s n x wk h.rd hx).mono ?_
    rintro e w' ⟨rfl, rfl⟩
    exact ⟨rfl, h⟩
def TextTo (w : World) (P R M : Nat) (cs : Array Value) (v : ByteArray) (s : ByteArray) (x : Int) (e : Ending) (w' : World) : Prop := e = .returned (.string v) ∧ UI w w' P R M cs s x
theorem text_at {w wk : World} {P R M : Nat} {cs : Array Value} {s s' : ByteArray} {x x' n : Int} {v : ByteArray} (h : UI w wk P R M cs s x) (hc : textR s x n = (v, s', x')) :
    Calls Tryz.prog 76 #[.pointer (some ⟨R, 0, none⟩), .int .i64 n] wk (TextTo w P R M cs v s' x') := by
  unfold textR at hc
  by_cases hx : x = 0
  · subst hx
    rw [if_pos rfl] at hc
    simp only [Prod.mk.injEq] at hc
    obtain ⟨rfl, rfl, rfl⟩ := hc
    refine (Oc.text_any R s n wk h.rd rfl).mono ?_
    rintro e w' ⟨rfl, hr, hg⟩
    exact ⟨rfl, h.read hr hg⟩
  · rw [if_neg hx] at hc
    simp only [Prod.mk.injEq] at hc
    obtain ⟨rfl, rfl, rfl⟩ := hc
    refine (Oc.text_none R s n x wk h.rd hx).mono ?_
    rintro e w' ⟨rfl, rfl⟩
    exact ⟨rfl, h⟩
def ListTo (w : World) (P R M : Nat) (cs : Array Value) (v : List ByteArray) (s : ByteArray) (x : Int) (e : Ending) (w' : World) : Prop := ∃ vk, e = .returned vk ∧ UI w w' P R M cs s x ∧ Strs w' (M + 1) vk v ∧ CapOk vk
theorem strs_low {w : World} {B C : Nat} {v : Value} {ts : List ByteArray} (h : Strs w B v ts) (hc : C ≤ B) : Strs w C v ts := by
  obtain ⟨a, cap, rfl, h⟩ := h
  refine ⟨a, cap, rfl, ?_⟩
  rcases h with h | ⟨b, o, rfl, hb, h⟩
  · exact .inl h
  · exact .inr ⟨b, o, rfl, Nat.le_trans hc hb, h⟩
theorem list_at {w wk : World} {P R M : Nat} {cs : Array Value} {s s' : ByteArray} {x x' n k : Int} {v : List ByteArray} (h : UI w wk P R M cs s x) (hc : listR s x n k = (v, s', x')) :
    Calls Tryz.prog 77 #[.pointer (some ⟨R, 0, none⟩), .int .i64 n, .int .i64 k] wk (ListTo w P R M cs v s' x') := by
  unfold listR at hc
  by_cases hx : x = 0
  · subst hx
    rw [if_pos rfl] at hc
    simp only [Prod.mk.injEq] at hc
    obtain ⟨rfl, rfl, rfl⟩ := hc
    refine (Oc.list_full R s n k wk h.rd rfl).mono ?_
    rintro e w' ⟨vk, rfl, hfull, hst, hr, hg⟩
    obtain ⟨a, c, rfl⟩ := hfull
    exact ⟨_, rfl, h.read hr hg, strs_low hst (by have := h.box.lt; omega), ⟨a, c, c, rfl, Nat.le_refl _⟩⟩
  · rw [if_neg hx] at hc
    simp only [Prod.mk.injEq] at hc
    obtain ⟨rfl, rfl, rfl⟩ := hc
    refine (Oc.list_none R s n k x wk h.rd hx).mono ?_
    rintro e w' ⟨rfl, rfl⟩
    exact ⟨_, rfl, h, ⟨none, 0, rfl, .inl rfl⟩, ⟨none, 0, 0, rfl, Nat.le_refl _⟩⟩
/-- What was read of it: the record, what is left, what was wrong. -/
structure UnpM where
  m : MsgM
  s : ByteArray
  x : Int
def unpS (p : ByteArray) : UnpM :=
  let a1 := numR p 0 1
  let a2 := numR a1.2.1 a1.2.2 1
  let a3 := numR a2.2.1 a2.2.2 1
  let b1 := numR a3.2.1 a3.2.2 6
  let b2 := numR b1.2.1 b1.2.2 6
  let b3 := numR b2.2.1 b2.2.2 6
  let c1 := textR b3.2.1 b3.2.2 16
  let c2 := textR c1.2.1 c1.2.2 16
  let c3 := textR c2.2.1 c2.2.2 200
  let d := listR c3.2.1 c3.2.2 3 16
  ⟨⟨a1.1, a2.1, b2.1, a3.1, b3.1, b1.1, c1.1, c2.1, c3.1, d.1⟩, d.2.1, d.2.2⟩
def unpB (p : ByteArray) : Bool := decide (Oc.endE (unpS p).s (unpS p).x = 0) && (decide ((unpS p).m.kind ≠ 0) && rightB (unpS p).m)
/-- What unpacked hands back. -/
def UnpTo (p : ByteArray) (w : World) (e : Ending) (w' : World) : Prop :=
  ∃ m vk, e = .returned (.tuple #[m.val vk, .bool (unpB p)]) ∧ Strs w' w.heap.size vk m.keys ∧ CapOk vk ∧ m = (if unpB p = true then (unpS p).m else zeroM) ∧ Below w.heap.size w w'
theorem cutS_le {s t r : ByteArray} {n x : Int} (h : Oc.cutS s n = (t, r, x)) : t.size ≤ s.size ∧ r.size ≤ s.size := by
  unfold Oc.cutS at h
  split at h
  · cases h; exact ⟨Nat.zero_le _, Nat.zero_le _⟩
  · split at h
    · cases h; exact ⟨Nat.zero_le _, Nat.zero_le _⟩
    · cases h
      rw [ByteArray.size_extract, ByteArray.size_extract]
      omega
theorem numS_le2 (s : ByteArray) (n : Int) : (Oc.numS s n).2.1.size ≤ s.size := by
  unfold Oc.numS
  split
  · split
    · obtain ⟨t, r, x, h⟩ : ∃ t r x, Oc.cutS s n = (t, r, x) := ⟨_, _, _, rfl⟩
      rw [h]
      exact (cutS_le h).2
    · exact Nat.zero_le _
  · exact Nat.zero_le _
theorem goS_le {s r : ByteArray} {x : Int} (h : r.size ≤ s.size) : (Oc.goS s r x).size ≤ s.size := by
  unfold Oc.goS
  split
  · exact h
  · exact Nat.le_refl _
theorem textS_le2 (s : ByteArray) (n : Int) : (Oc.textS s n).1.size ≤ s.size ∧ (Oc.textS s n).2.1.size ≤ s.size := by
  unfold Oc.textS
  have h1 := numS_le2 s 2
  split
  · split
    · exact ⟨Nat.zero_le _, Nat.zero_le _⟩
    · obtain ⟨t, r, x, h⟩ : ∃ t r x, Oc.cutS (Oc.numS s 2).2.1 (Oc.numS s 2).1 = (t, r, x) := ⟨_, _, _, rfl⟩
      rw [h]
      have := cutS_le h
      exact ⟨Nat.le_trans this.1 h1, Nat.le_trans this.2 h1⟩
  · exact ⟨Nat.zero_le _, Nat.zero_le _⟩
theorem numR_le (s : ByteArray) (x n : Int) : (numR s x n).2.1.size ≤ s.size := by
  unfold numR
  split
  · exact goS_le (numS_le2 s n)
  · exact Nat.le_refl _
theorem textR_le (s : ByteArray) (x n : Int) : (textR s x n).1.size ≤ s.size ∧ (textR s x n).2.1.size ≤ s.size := by
  unfold textR
  split
  · exact ⟨(textS_le2 s n).1, goS_le (textS_le2 s n).2⟩
  · exact ⟨Nat.zero_le _, Nat.le_refl _⟩
theorem textsS_all (most : Int) (B : Nat) : ∀ (n : Nat) (s : ByteArray) (acc : List ByteArray), s.size ≤ B → (∀ t ∈ acc, t.size ≤ B) → (∀ t ∈ (Oc.textsS most n s acc).1, t.size ≤ B) ∧ (Oc.textsS most n s acc).1.length ≤ acc.length + n
  | 0, s, acc, hs, ha => ⟨ha, Nat.le_refl _⟩
  | n + 1, s, acc, hs, ha => by
    have h1 := textS_le2 s most
    simp only [Oc.textsS]
    split
    · have := textsS_all most B n (Oc.textS s most).2.1 (acc ++ [(Oc.textS s most).1]) (by omega) (fun t ht => by
        rcases List.mem_append.1 ht with ht | ht
        · exact ha t ht
        · rw [List.mem_singleton] at ht
          rw [ht]; omega)
      refine ⟨this.1, Nat.le_trans this.2 ?_⟩
      simp only [List.length_append, List.length_singleton]
      omega
    · exact ⟨fun t ht => by simp at ht, Nat.zero_le _⟩
theorem listS_all (s : ByteArray) (n k : Int) : (∀ t ∈ (Oc.listS s n k).1, t.size ≤ s.size) ∧ (Oc.listS s n k).1.length ≤ 256 := by
  unfold Oc.listS
  have h1 := numS_le2 s 1
  have h2 : (Oc.numS s 1).1 < 256 := Oc.numS_lt (n := 1) (s := s) rfl
  split
  · split
    · exact ⟨fun t ht => by simp at ht, Nat.zero_le _⟩
    · have := textsS_all k s.size (Oc.numS s 1).1 (Oc.numS s 1).2.1 [] h1 (fun t ht => by simp at ht)
      refine ⟨this.1, Nat.le_trans this.2 ?_⟩
      simp only [List.length_nil]
      omega
  · exact ⟨fun t ht => by simp at ht, Nat.zero_le _⟩
theorem listR_all (s : ByteArray) (x n k : Int) : (∀ t ∈ (listR s x n k).1, t.size ≤ s.size) ∧ (listR s x n k).1.length ≤ 256 := by
  unfold listR
  split
  · exact listS_all s n k
  · exact ⟨fun t ht => by simp at ht, Nat.zero_le _⟩
theorem unp_sound (p : ByteArray) (hp : p.size ≤ 1000000) : Sound (unpS p).m := by
  unfold unpS
  simp only
  have a1 := numR_le p 0 1
  generalize numR p 0 1 = A1 at *
  have a2 := numR_le A1.2.1 A1.2.2 1
  generalize numR A1.2.1 A1.2.2 1 = A2 at *
  have a3 := numR_le A2.2.1 A2.2.2 1
  generalize numR A2.2.1 A2.2.2 1 = A3 at *
  have b1 := numR_le A3.2.1 A3.2.2 6
  generalize numR A3.2.1 A3.2.2 6 = B1 at *
  have b2 := numR_le B1.2.1 B1.2.2 6
  generalize numR B1.2.1 B1.2.2 6 = B2 at *
  have b3 := numR_le B2.2.1 B2.2.2 6
  generalize numR B2.2.1 B2.2.2 6 = B3 at *
  have c1 := textR_le B3.2.1 B3.2.2 16
  generalize textR B3.2.1 B3.2.2 16 = C1 at *
  have c2 := textR_le C1.2.1 C1.2.2 16
  generalize textR C1.2.1 C1.2.2 16 = C2 at *
  have c3 := textR_le C2.2.1 C2.2.2 200
  generalize textR C2.2.1 C2.2.2 200 = C3 at *
  have d := listR_all C3.2.1 C3.2.2 3 16
  generalize listR C3.2.1 C3.2.2 3 16 = D at *
  refine ⟨?_, ?_, ?_, ?_, fun t ht => ?_⟩
  · show C1.1.size ≤ maxLen; unfold maxLen; omega
  · show C2.1.size ≤ maxLen; unfold maxLen; omega
  · show C3.1.size ≤ 1000000; omega
  · show D.1.length ≤ 1000000; omega
  · have := d.1 t ht
    unfold maxLen
    omega
set_option maxHeartbeats 8000000 in
set_option maxRecDepth 100000 in
theorem unp_any (p : ByteArray) (w : World) (hp : p.size ≤ 1000000) : Calls Tryz.prog 59 #[.string p] w (UnpTo p w) := by
  obtain ⟨P, hP⟩ : ∃ P, P = w.heap.size := ⟨_, rfl⟩
  obtain ⟨R, hR⟩ : ∃ R, R = w.heap.size + 1 := ⟨_, rfl⟩
  obtain ⟨M, hM⟩ : ∃ M, M = w.heap.size + 1 + 1 := ⟨_, rfl⟩
  obtain ⟨W0, hW0⟩ : ∃ W, W = ((w.alloc (.cells #[.int .i64 0, .int .i64 0, .int .i64 0, .int .i64 0, .int .i64 0, .int .i64 0, .string ⟨#[]⟩, .string ⟨#[]⟩, .string ⟨#[]⟩, .slice none 0 0] 24)).alloc (.cells #[.string p, .int .i64 0] 94)).alloc (.cells #[.int .i64 0, .int .i64 0, .int .i64 0, .int .i64 0, .int .i64 0, .int .i64 0, .string ⟨#[]⟩, .string ⟨#[]⟩, .string ⟨#[]⟩, .slice none 0 0] 24) := ⟨_, rfl⟩
  have hu0 : UI w W0 P R M zc p 0 := by
    have e1 : (w.alloc (.cells zc 24)).heap.size = R := by rw [World.size_alloc, hR]
    have e2 : ((w.alloc (.cells zc 24)).alloc (.cells #[.string p, .int .i64 0] 94)).heap.size = M := by rw [World.size_alloc, World.size_alloc, hM]
    have b1 := Box.new w zc
    have b2 := Box.new ((w.alloc (.cells zc 24)).alloc (.cells #[.string p, .int .i64 0] 94)) zc
    rw [e2] at b2
    have r1 : ((w.alloc (.cells zc 24)).alloc (.cells #[.string p, .int .i64 0] 94)).heap[R]? = some (.cells #[.string p, .int .i64 0] 94) := by
      rw [← e1]
      exact heap_alloc_new _ _
    rw [hW0]
    refine ⟨?_, b2, ?_, ?_, by omega, by omega, by omega, by omega, by omega, by omega, by omega⟩
    · exact (Below.heap_alloc _ (.cells zc 24) _ (Array.getElem?_eq_some_iff.1 r1).1).trans r1
    · rw [hP]
      exact (b1.alloc _).alloc _
    · exact (((Below.refl w.heap.size w).alloc (Nat.le_refl _) _).alloc (by simp only [World.size_alloc]; omega) _).alloc (by simp only [World.size_alloc]; omega) _
  have HU0 := Lib.hid hu0
  have HW0 := Lib.hid hW0
  have HPR := Lib.hid (show w.heap.size = P ∧ w.heap.size + 1 = R ∧ w.heap.size + 1 + 1 = M from ⟨hP.symm, hR.symm, hM.symm⟩)
  have HSO := Lib.hid (unp_sound p hp)
  obtain ⟨u, hu⟩ : ∃ u, unpS p = u := ⟨_, rfl⟩
  have HUU := Lib.hid hu
  unfold unpS at hu
  simp only at hu
  obtain ⟨va1, sa1, xa1, ha1⟩ : ∃ v s x, numR p 0 1 = (v, s, x) := ⟨_, _, _, rfl⟩
  rw [ha1] at hu
  simp only at hu
  have Ha1 := Lib.hid ha1
  clear ha1
  obtain ⟨va2, sa2, xa2, ha2⟩ : ∃ v s x, numR sa1 xa1 1 = (v, s, x) := ⟨_, _, _, rfl⟩
  rw [ha2] at hu
  simp only at hu
  have Ha2 := Lib.hid ha2
  clear ha2
  obtain ⟨va3, sa3, xa3, ha3⟩ : ∃ v s x, numR sa2 xa2 1 = (v, s, x) := ⟨_, _, _, rfl⟩
  rw [ha3] at hu
  simp only at hu
  have Ha3 := Lib.hid ha3
  clear ha3
  obtain ⟨vb1, sb1, xb1, hb1⟩ : ∃ v s x, numR sa3 xa3 6 = (v, s, x) := ⟨_, _, _, rfl⟩
  rw [hb1] at hu
  simp only at hu
  have Hb1 := Lib.hid hb1
  clear hb1
  obtain ⟨vb2, sb2, xb2, hb2⟩ : ∃ v s x, numR sb1 xb1 6 = (v, s, x) := ⟨_, _, _, rfl⟩
  rw [hb2] at hu
  simp only at hu
  have Hb2 := Lib.hid hb2
  clear hb2
  obtain ⟨vb3, sb3, xb3, hb3⟩ : ∃ v s x, numR sb2 xb2 6 = (v, s, x) := ⟨_, _, _, rfl⟩
  rw [hb3] at hu
  simp only at hu
  have Hb3 := Lib.hid hb3
  clear hb3
  obtain ⟨vc1, sc1, xc1, hc1⟩ : ∃ v s x, textR sb3 xb3 16 = (v, s, x) := ⟨_, _, _, rfl⟩
  rw [hc1] at hu
  simp only at hu
  have Hc1 := Lib.hid hc1
  clear hc1
  obtain ⟨vc2, sc2, xc2, hc2⟩ : ∃ v s x, textR sc1 xc1 16 = (v, s, x) := ⟨_, _, _, rfl⟩
  rw [hc2] at hu
  simp only at hu
  have Hc2 := Lib.hid hc2
  clear hc2
  obtain ⟨vc3, sc3, xc3, hc3⟩ : ∃ v s x, textR sc2 xc2 200 = (v, s, x) := ⟨_, _, _, rfl⟩
  rw [hc3] at hu
  simp only at hu
  have Hc3 := Lib.hid hc3
  clear hc3
  obtain ⟨vd, sd, xd, hd⟩ : ∃ v s x, listR sc3 xc3 3 16 = (v, s, x) := ⟨_, _, _, rfl⟩
  rw [hd] at hu
  simp only at hu
  have Hd := Lib.hid hd
  clear hd
  have HUE := Lib.hid hu
  clear hu hu0 hW0 hP hR hM hp
  go_enter Tryz.func59, Tryz.ntmps59
  go_wp2_with fail
  refine (Oc.new_any p _).mono ?_
  rintro e w1 ⟨rfl, rfl⟩
  go_wp2_with fail
  rw [← HW0.out]
  rw [HPR.out.2.2, HPR.out.2.1]
  refine (num_at HU0.out Ha1.out).mono ?_
  rintro e w2 ⟨rfl, hu⟩
  have HU2 := Lib.hid hu
  clear hu
  go_wp2_with fail
  refine (num_at HU2.out Ha2.out).mono ?_
  rintro e w3 ⟨rfl, hu⟩
  have HU3 := Lib.hid hu
  clear hu
  go_wp2_with fail
  refine (num_at HU3.out Ha3.out).mono ?_
  rintro e w4 ⟨rfl, hu⟩
  have HU4 := Lib.hid hu
  have hcm := hu.box.cell
  have hfm := hu.box.free
  simp only [zc] at hcm
  clear hu
  go_wp2_with fail
  obtain ⟨w5, hw5⟩ : ∃ W, W = (((w4).setCell ⟨M, 0, none⟩ (.int .i64 va1)).setCell ⟨M, 1, none⟩ (.int .i64 va2)).setCell ⟨M, 3, none⟩ (.int .i64 va3) := ⟨_, rfl⟩
  rw [← hw5]
  have hu : UI w w5 P R M #[.int .i64 va1, .int .i64 va2, .int .i64 0, .int .i64 va3, .int .i64 0, .int .i64 0, .string ⟨#[]⟩, .string ⟨#[]⟩, .string ⟨#[]⟩, .slice none 0 0] _ _ := hw5 ▸ (((HU4.out).set 0 (.int .i64 va1)).set 1 (.int .i64 va2)).set 3 (.int .i64 va3)
  have HU5 := Lib.hid hu
  clear hu hw5 hcm hfm
  refine (num_at HU5.out Hb1.out).mono ?_
  rintro e w6 ⟨rfl, hu⟩
  have HU6 := Lib.hid hu
  clear hu
  go_wp2_with fail
  refine (num_at HU6.out Hb2.out).mono ?_
  rintro e w7 ⟨rfl, hu⟩
  have HU7 := Lib.hid hu
  clear hu
  go_wp2_with fail
  refine (num_at HU7.out Hb3.out).mono ?_
  rintro e w8 ⟨rfl, hu⟩
  have HU8 := Lib.hid hu
  have hcm := hu.box.cell
  have hfm := hu.box.free
  clear hu
  go_wp2_with fail
  obtain ⟨w9, hw9⟩ : ∃ W, W = (((w8).setCell ⟨M, 5, none⟩ (.int .i64 vb1)).setCell ⟨M, 2, none⟩ (.int .i64 vb2)).setCell ⟨M, 4, none⟩ (.int .i64 vb3) := ⟨_, rfl⟩
  rw [← hw9]
  have hu : UI w w9 P R M #[.int .i64 va1, .int .i64 va2, .int .i64 vb2, .int .i64 va3, .int .i64 vb3, .int .i64 vb1, .string ⟨#[]⟩, .string ⟨#[]⟩, .string ⟨#[]⟩, .slice none 0 0] _ _ := hw9 ▸ (((HU8.out).set 5 (.int .i64 vb1)).set 2 (.int .i64 vb2)).set 4 (.int .i64 vb3)
  have HU9 := Lib.hid hu
  clear hu hw9 hcm hfm
  refine (text_at HU9.out Hc1.out).mono ?_
  rintro e w10 ⟨rfl, hu⟩
  have HU10 := Lib.hid hu
  clear hu
  go_wp2_with fail
  refine (text_at HU10.out Hc2.out).mono ?_
  rintro e w11 ⟨rfl, hu⟩
  have HU11 := Lib.hid hu
  clear hu
  go_wp2_with fail
  refine (text_at HU11.out Hc3.out).mono ?_
  rintro e w12 ⟨rfl, hu⟩
  have HU12 := Lib.hid hu
  have hcm := hu.box.cell
  have hfm := hu.box.free
  clear hu
  go_wp2_with fail
  obtain ⟨w13, hw13⟩ : ∃ W, W = (((w12).setCell ⟨M, 6, none⟩ (.string vc1)).setCell ⟨M, 7, none⟩ (.string vc2)).setCell ⟨M, 8, none⟩ (.string vc3) := ⟨_, rfl⟩
  rw [← hw13]
  have hu : UI w w13 P R M #[.int .i64 va1, .int .i64 va2, .int .i64 vb2, .int .i64 va3, .int .i64 vb3, .int .i64 vb1, .string vc1, .string vc2, .string vc3, .slice none 0 0] _ _ := hw13 ▸ (((HU12.out).set 6 (.string vc1)).set 7 (.string vc2)).set 8 (.string vc3)
  have HU13 := Lib.hid hu
  clear hu hw13 hcm hfm
  refine (list_at HU13.out Hd.out).mono ?_
  rintro e wl ⟨vk, rfl, hu, hst, hcp⟩
  obtain ⟨ka, kc, hvk⟩ := hst.form
  have HUL := Lib.hid hu
  have HST := Lib.hid hst
  have HCP := Lib.hid hcp
  have hcm := hu.box.cell
  have hfm := hu.box.free
  clear hu hst hcp
  have hlen : vd.length ≤ 256 := by
    have := (listR_all sc3 xc3 3 16).2
    rw [Hd.out] at this
    exact this
  subst hvk
  by_cases hl0 : vd.length = 0
  · obtain rfl : vd = [] := List.length_eq_zero_iff.1 hl0
    have HSTR : Hid (Strs wl (M + 1) (.slice none 0 0) []) := Lib.hid ⟨none, 0, rfl, .inl rfl⟩
    have HCAP : Hid (CapOk (.slice none 0 0)) := Lib.hid ⟨none, 0, 0, rfl, Nat.le_refl _⟩
    have HZERO := Lib.hid HUL.out.zero
    have HBEL := Lib.hid HUL.out.bel
    have HLT := Lib.hid HUL.out.pl
    have hzm := HZERO.out.cell
    have hzf := HZERO.out.free
    rw [← HPR.out.1] at hzm hzf
    simp only [zc] at hzm
    have hcm := HUL.out.box.cell
    have HEN := Lib.hid (Oc.end_any R sd xd wl HUL.out.rd)
    have HUQ : Hid (unpS p = ⟨⟨va1, va2, vb2, va3, vb3, vb1, vc1, vc2, vc3, []⟩, sd, xd⟩) := Lib.hid (by rw [HUU.out, ← HUE.out])
    by_cases he : Oc.endE sd xd = 0
    · have he1 : (Oc.endE sd xd != 0) = false := by rw [he]; rfl
      have HE := Lib.hid he
      clear he
      by_cases hk : va1 = 0
      · have hk1 : ((va1 : Int) == 0) = true := by rw [hk]; rfl
        have HB : Hid (unpB p = false) := Lib.hid (by
          unfold unpB
          rw [HUQ.out]
          show (_ && (decide (((va1 : Nat) : Int) ≠ 0) && _)) = false
          rw [hk]
          simp)
        clear hk
        go_wp2_with fail
        refine HEN.out.mono ?_
        rintro e wm ⟨rfl, rfl⟩
        go_wp2_with fail
        obtain ⟨W, hW⟩ : ∃ W, W = set10 wl w.heap.size (.int .i64 0) (.int .i64 0) (.int .i64 0) (.int .i64 0) (.int .i64 0) (.int .i64 0) (.string ⟨#[]⟩) (.string ⟨#[]⟩) (.string ⟨#[]⟩) (.slice none 0 0) := ⟨_, rfl⟩
        have hbx : Box W w.heap.size #[.int .i64 0, .int .i64 0, .int .i64 0, .int .i64 0, .int .i64 0, .int .i64 0, .string ⟨#[]⟩, .string ⟨#[]⟩, .string ⟨#[]⟩, .slice none 0 0] := by rw [hW]; exact box_set10 (HPR.out.1 ▸ HZERO.out) (.int .i64 0) (.int .i64 0) (.int .i64 0) (.int .i64 0) (.int .i64 0) (.int .i64 0) (.string ⟨#[]⟩) (.string ⟨#[]⟩) (.string ⟨#[]⟩) (.slice none 0 0)
        have hbl : Below w.heap.size w W := by rw [hW]; exact below_set10 HBEL.out (Nat.le_refl _) (.int .i64 0) (.int .i64 0) (.int .i64 0) (.int .i64 0) (.int .i64 0) (.int .i64 0) (.string ⟨#[]⟩) (.string ⟨#[]⟩) (.string ⟨#[]⟩) (.slice none 0 0)
        unfold set10 at hW
        rw [← hW]
        have hpm := Box.cell hbx
        exact bodyPost_ret (v := .tuple #[zeroM.val (.slice none 0 0), .bool false]) (by simp [results, Tryz.results59, go_sem, hpm, zeroM, MsgM.val, MsgM.cells]) rfl ⟨zeroM, .slice none 0 0, by (rw [HB.out]) <;> rfl, ⟨none, 0, rfl, .inl rfl⟩, ⟨none, 0, 0, rfl, Nat.le_refl _⟩, by rw [HB.out]; rfl, hbl⟩
      · have hk1 : ((va1 : Int) == 0) = false := by simpa using hk
        have HK := Lib.hid hk
        clear hk
        obtain ⟨z, hz⟩ : ∃ z, rightB ⟨va1, va2, vb2, va3, vb3, vb1, vc1, vc2, vc3, []⟩ = z := ⟨_, rfl⟩
        have hso := HSO.out
        rw [HUQ.out] at hso
        have HR := Lib.hid (right_any ⟨va1, va2, vb2, va3, vb3, vb1, vc1, vc2, vc3, []⟩ (.slice none 0 0) z wl HSTR.out.zero HCAP.out hso hz)
        have HB : Hid (unpB p = z) := Lib.hid (by
          unfold unpB
          rw [HUQ.out]
          show (decide (Oc.endE sd xd = 0) && (decide (((va1 : Nat) : Int) ≠ 0) && rightB _)) = z
          rw [hz, HE.out]
          have : ((va1 : Nat) : Int) ≠ 0 := by have := HK.out; omega
          rw [decide_eq_true this]
          simp)
        clear hz hso
        unfold MsgM.val MsgM.cells at HR
        cases z
        · go_wp2_with fail
          refine HEN.out.mono ?_
          rintro e wm ⟨rfl, rfl⟩
          go_wp2_with fail
          refine HR.out.mono ?_
          rintro e wn ⟨rfl, hb⟩
          have HZ2 := Lib.hid (HZERO.out.below hb HZERO.out.lt)
          have HBE2 := Lib.hid (HBEL.out.trans (hb.mono HBEL.out.size))
          have hzm2 := HZ2.out.cell
          have hzf2 := HZ2.out.free
          rw [← HPR.out.1] at hzm2 hzf2
          simp only [zc] at hzm2
          clear hb hzm hzf hcm
          go_wp2_with fail
          obtain ⟨W, hW⟩ : ∃ W, W = set10 wn w.heap.size (.int .i64 0) (.int .i64 0) (.int .i64 0) (.int .i64 0) (.int .i64 0) (.int .i64 0) (.string ⟨#[]⟩) (.string ⟨#[]⟩) (.string ⟨#[]⟩) (.slice none 0 0) := ⟨_, rfl⟩
          have hbx : Box W w.heap.size #[.int .i64 0, .int .i64 0, .int .i64 0, .int .i64 0, .int .i64 0, .int .i64 0, .string ⟨#[]⟩, .string ⟨#[]⟩, .string ⟨#[]⟩, .slice none 0 0] := by rw [hW]; exact box_set10 (HPR.out.1 ▸ HZ2.out) (.int .i64 0) (.int .i64 0) (.int .i64 0) (.int .i64 0) (.int .i64 0) (.int .i64 0) (.string ⟨#[]⟩) (.string ⟨#[]⟩) (.string ⟨#[]⟩) (.slice none 0 0)
          have hbl : Below w.heap.size w W := by rw [hW]; exact below_set10 HBE2.out (Nat.le_refl _) (.int .i64 0) (.int .i64 0) (.int .i64 0) (.int .i64 0) (.int .i64 0) (.int .i64 0) (.string ⟨#[]⟩) (.string ⟨#[]⟩) (.string ⟨#[]⟩) (.slice none 0 0)
          unfold set10 at hW
          rw [← hW]
          have hpm := Box.cell hbx
          exact bodyPost_ret (v := .tuple #[zeroM.val (.slice none 0 0), .bool false]) (by simp [results, Tryz.results59, go_sem, hpm, zeroM, MsgM.val, MsgM.cells]) rfl ⟨zeroM, .slice none 0 0, by (rw [HB.out]) <;> rfl, ⟨none, 0, rfl, .inl rfl⟩, ⟨none, 0, 0, rfl, Nat.le_refl _⟩, by rw [HB.out]; rfl, hbl⟩
        · go_wp2_with fail
          refine HEN.out.mono ?_
          rintro e wm ⟨rfl, rfl⟩
          go_wp2_with fail
          refine HR.out.mono ?_
          rintro e wn ⟨rfl, hb⟩
          have HZ2 := Lib.hid (HZERO.out.below hb HZERO.out.lt)
          have HBE2 := Lib.hid (HBEL.out.trans (hb.mono HBEL.out.size))
          have hzm2 := HZ2.out.cell
          have hzf2 := HZ2.out.free
          rw [← HPR.out.1] at hzm2 hzf2
          simp only [zc] at hzm2
          have hcm2 := (HUL.out.box.below hb HUL.out.box.lt).cell
          have HSTR2 : Hid (Strs wn (M + 1) (.slice none 0 0) []) := Lib.hid (HSTR.out.below hb (Nat.le_refl _))
          clear hb hzm hzf hcm
          go_wp2_with fail
          obtain ⟨W, hW⟩ : ∃ W, W = set10 wn w.heap.size (.int .i64 va1) (.int .i64 va2) (.int .i64 vb2) (.int .i64 va3) (.int .i64 vb3) (.int .i64 vb1) (.string vc1) (.string vc2) (.string vc3) (.slice none 0 0) := ⟨_, rfl⟩
          have hbx : Box W w.heap.size #[.int .i64 va1, .int .i64 va2, .int .i64 vb2, .int .i64 va3, .int .i64 vb3, .int .i64 vb1, .string vc1, .string vc2, .string vc3, .slice none 0 0] := by rw [hW]; exact box_set10 (HPR.out.1 ▸ HZ2.out) (.int .i64 va1) (.int .i64 va2) (.int .i64 vb2) (.int .i64 va3) (.int .i64 vb3) (.int .i64 vb1) (.string vc1) (.string vc2) (.string vc3) (.slice none 0 0)
          have hbl : Below w.heap.size w W := by rw [hW]; exact below_set10 HBE2.out (Nat.le_refl _) (.int .i64 va1) (.int .i64 va2) (.int .i64 vb2) (.int .i64 va3) (.int .i64 vb3) (.int .i64 vb1) (.string vc1) (.string vc2) (.string vc3) (.slice none 0 0)
          have hst : Strs W (M + 1) (.slice none 0 0) [] := by rw [hW]; exact strs_set10 HSTR2.out (by have := HLT.out; have := HPR.out; omega) (.int .i64 va1) (.int .i64 va2) (.int .i64 vb2) (.int .i64 va3) (.int .i64 vb3) (.int .i64 vb1) (.string vc1) (.string vc2) (.string vc3) (.slice none 0 0)
          unfold set10 at hW
          rw [← hW]
          have hpm := Box.cell hbx
          exact bodyPost_ret (v := .tuple #[MsgM.val ⟨va1, va2, vb2, va3, vb3, vb1, vc1, vc2, vc3, []⟩ (.slice none 0 0), .bool true]) (by simp [results, Tryz.results59, go_sem, hpm, MsgM.val, MsgM.cells]) rfl ⟨_, _, by rw [HB.out], strs_low hst (by have := HLT.out; have := HPR.out; omega), HCAP.out, by rw [HB.out, if_pos rfl, HUU.out, ← HUE.out], hbl⟩
    · have he1 : (Oc.endE sd xd != 0) = true := by simpa using he
      have HB : Hid (unpB p = false) := Lib.hid (by
        unfold unpB
        rw [HUQ.out]
        show (decide (Oc.endE sd xd = 0) && _) = false
        rw [decide_eq_false he]
        rfl)
      clear he
      go_wp2_with fail
      refine HEN.out.mono ?_
      rintro e wm ⟨rfl, rfl⟩
      go_wp2_with fail
      obtain ⟨W, hW⟩ : ∃ W, W = set10 wl w.heap.size (.int .i64 0) (.int .i64 0) (.int .i64 0) (.int .i64 0) (.int .i64 0) (.int .i64 0) (.string ⟨#[]⟩) (.string ⟨#[]⟩) (.string ⟨#[]⟩) (.slice none 0 0) := ⟨_, rfl⟩
      have hbx : Box W w.heap.size #[.int .i64 0, .int .i64 0, .int .i64 0, .int .i64 0, .int .i64 0, .int .i64 0, .string ⟨#[]⟩, .string ⟨#[]⟩, .string ⟨#[]⟩, .slice none 0 0] := by rw [hW]; exact box_set10 (HPR.out.1 ▸ HZERO.out) (.int .i64 0) (.int .i64 0) (.int .i64 0) (.int .i64 0) (.int .i64 0) (.int .i64 0) (.string ⟨#[]⟩) (.string ⟨#[]⟩) (.string ⟨#[]⟩) (.slice none 0 0)
      have hbl : Below w.heap.size w W := by rw [hW]; exact below_set10 HBEL.out (Nat.le_refl _) (.int .i64 0) (.int .i64 0) (.int .i64 0) (.int .i64 0) (.int .i64 0) (.int .i64 0) (.string ⟨#[]⟩) (.string ⟨#[]⟩) (.string ⟨#[]⟩) (.slice none 0 0)
      unfold set10 at hW
      rw [← hW]
      have hpm := Box.cell hbx
      exact bodyPost_ret (v := .tuple #[zeroM.val (.slice none 0 0), .bool false]) (by simp [results, Tryz.results59, go_sem, hpm, zeroM, MsgM.val, MsgM.cells]) rfl ⟨zeroM, .slice none 0 0, by (rw [HB.out]) <;> rfl, ⟨none, 0, rfl, .inl rfl⟩, ⟨none, 0, 0, rfl, Nat.le_refl _⟩, by rw [HB.out]; rfl, hbl⟩
  · have hl1 : 0 < vd.length := by omega
    obtain ⟨nl, hnl⟩ : ∃ nl, nl = vd.length := ⟨_, rfl⟩
    rw [← hnl] at hl1 hlen hl0 HST HCP ⊢
    have HNL := Lib.hid hnl
    clear hnl hl0
    obtain ⟨wq, hwq⟩ : ∃ W, W = wl.setCell ⟨M, 9, none⟩ (.slice ka nl kc) := ⟨_, rfl⟩
    have huq : UI w wq P R M #[.int .i64 va1, .int .i64 va2, .int .i64 vb2, .int .i64 va3, .int .i64 vb3, .int .i64 vb1, .string vc1, .string vc2, .string vc3, .slice ka nl kc] sd xd := hwq ▸ HUL.out.set 9 (.slice ka nl kc)
    have HUQ2 := Lib.hid huq
    have HSTR : Hid (Strs wq (M + 1) (.slice ka nl kc) vd) := Lib.hid (hwq ▸ strs_set HST.out (Nat.lt_succ_self _) 9 _)
    have HWQ := Lib.hid hwq
    have HCAP := Lib.hid HCP.out
    clear huq hwq
    have HZERO := Lib.hid HUQ2.out.zero
    have HBEL := Lib.hid HUQ2.out.bel
    have HLT := Lib.hid HUQ2.out.pl
    have hzm := HZERO.out.cell
    have hzf := HZERO.out.free
    rw [← HPR.out.1] at hzm hzf
    simp only [zc] at hzm
    have hcm9 := HUL.out.box.cell
    have hfm9 := HUL.out.box.free
    have hcm := HUQ2.out.box.cell
    have HEN := Lib.hid (Oc.end_any R sd xd wq HUQ2.out.rd)
    have HUQ : Hid (unpS p = ⟨⟨va1, va2, vb2, va3, vb3, vb1, vc1, vc2, vc3, vd⟩, sd, xd⟩) := Lib.hid (by rw [HUU.out, ← HUE.out])
    by_cases he : Oc.endE sd xd = 0
    · have he1 : (Oc.endE sd xd != 0) = false := by rw [he]; rfl
      have HE := Lib.hid he
      clear he
      by_cases hk : va1 = 0
      · have hk1 : ((va1 : Int) == 0) = true := by rw [hk]; rfl
        have HB : Hid (unpB p = false) := Lib.hid (by
          unfold unpB
          rw [HUQ.out]
          show (_ && (decide (((va1 : Nat) : Int) ≠ 0) && _)) = false
          rw [hk]
          simp)
        clear hk
        go_wp2_with fail
        rw [← HWQ.out]
        refine HEN.out.mono ?_
        rintro e wm ⟨rfl, rfl⟩
        go_wp2_with fail
        obtain ⟨W, hW⟩ : ∃ W, W = set10 wq w.heap.size (.int .i64 0) (.int .i64 0) (.int .i64 0) (.int .i64 0) (.int .i64 0) (.int .i64 0) (.string ⟨#[]⟩) (.string ⟨#[]⟩) (.string ⟨#[]⟩) (.slice none 0 0) := ⟨_, rfl⟩
        have hbx : Box W w.heap.size #[.int .i64 0, .int .i64 0, .int .i64 0, .int .i64 0, .int .i64 0, .int .i64 0, .string ⟨#[]⟩, .string ⟨#[]⟩, .string ⟨#[]⟩, .slice none 0 0] := by rw [hW]; exact box_set10 (HPR.out.1 ▸ HZERO.out) (.int .i64 0) (.int .i64 0) (.int .i64 0) (.int .i64 0) (.int .i64 0) (.int .i64 0) (.string ⟨#[]⟩) (.string ⟨#[]⟩) (.string ⟨#[]⟩) (.slice none 0 0)
        have hbl : Below w.heap.size w W := by rw [hW]; exact below_set10 HBEL.out (Nat.le_refl _) (.int .i64 0) (.int .i64 0) (.int .i64 0) (.int .i64 0) (.int .i64 0) (.int .i64 0) (.string ⟨#[]⟩) (.string ⟨#[]⟩) (.string ⟨#[]⟩) (.slice none 0 0)
        unfold set10 at hW
        rw [← hW]
        have hpm := Box.cell hbx
        exact bodyPost_ret (v := .tuple #[zeroM.val (.slice none 0 0), .bool false]) (by simp [results, Tryz.results59, go_sem, hpm, zeroM, MsgM.val, MsgM.cells]) rfl ⟨zeroM, .slice none 0 0, by (rw [HB.out]) <;> rfl, ⟨none, 0, rfl, .inl rfl⟩, ⟨none, 0, 0, rfl, Nat.le_refl _⟩, by rw [HB.out]; rfl, hbl⟩
      · have hk1 : ((va1 : Int) == 0) = false := by simpa using hk
        have HK := Lib.hid hk
        clear hk
        obtain ⟨z, hz⟩ : ∃ z, rightB ⟨va1, va2, vb2, va3, vb3, vb1, vc1, vc2, vc3, vd⟩ = z := ⟨_, rfl⟩
        have hso := HSO.out
        rw [HUQ.out] at hso
        have HR := Lib.hid (right_any ⟨va1, va2, vb2, va3, vb3, vb1, vc1, vc2, vc3, vd⟩ (.slice ka nl kc) z wq HSTR.out.zero HCAP.out hso hz)
        have HB : Hid (unpB p = z) := Lib.hid (by
          unfold unpB
          rw [HUQ.out]
          show (decide (Oc.endE sd xd = 0) && (decide (((va1 : Nat) : Int) ≠ 0) && rightB _)) = z
          rw [hz, HE.out]
          have : ((va1 : Nat) : Int) ≠ 0 := by have := HK.out; omega
          rw [decide_eq_true this]
          simp)
        clear hz hso
        unfold MsgM.val MsgM.cells at HR
        cases z
        · go_wp2_with fail
          rw [← HWQ.out]
          refine HEN.out.mono ?_
          rintro e wm ⟨rfl, rfl⟩
          go_wp2_with fail
          refine HR.out.mono ?_
          rintro e wn ⟨rfl, hb⟩
          have HZ2 := Lib.hid (HZERO.out.below hb HZERO.out.lt)
          have HBE2 := Lib.hid (HBEL.out.trans (hb.mono HBEL.out.size))
          have hzm2 := HZ2.out.cell
          have hzf2 := HZ2.out.free
          rw [← HPR.out.1] at hzm2 hzf2
          simp only [zc] at hzm2
          clear hb hzm hzf hcm
          go_wp2_with fail
          obtain ⟨W, hW⟩ : ∃ W, W = set10 wn w.heap.size (.int .i64 0) (.int .i64 0) (.int .i64 0) (.int .i64 0) (.int .i64 0) (.int .i64 0) (.string ⟨#[]⟩) (.string ⟨#[]⟩) (.string ⟨#[]⟩) (.slice none 0 0) := ⟨_, rfl⟩
          have hbx : Box W w.heap.size #[.int .i64 0, .int .i64 0, .int .i64 0, .int .i64 0, .int .i64 0, .int .i64 0, .string ⟨#[]⟩, .string ⟨#[]⟩, .string ⟨#[]⟩, .slice none 0 0] := by rw [hW]; exact box_set10 (HPR.out.1 ▸ HZ2.out) (.int .i64 0) (.int .i64 0) (.int .i64 0) (.int .i64 0) (.int .i64 0) (.int .i64 0) (.string ⟨#[]⟩) (.string ⟨#[]⟩) (.string ⟨#[]⟩) (.slice none 0 0)
          have hbl : Below w.heap.size w W := by rw [hW]; exact below_set10 HBE2.out (Nat.le_refl _) (.int .i64 0) (.int .i64 0) (.int .i64 0) (.int .i64 0) (.int .i64 0) (.int .i64 0) (.string ⟨#[]⟩) (.string ⟨#[]⟩) (.string ⟨#[]⟩) (.slice none 0 0)
          unfold set10 at hW
          rw [← hW]
          have hpm := Box.cell hbx
          exact bodyPost_ret (v := .tuple #[zeroM.val (.slice none 0 0), .bool false]) (by simp [results, Tryz.results59, go_sem, hpm, zeroM, MsgM.val, MsgM.cells]) rfl ⟨zeroM, .slice none 0 0, by (rw [HB.out]) <;> rfl, ⟨none, 0, rfl, .inl rfl⟩, ⟨none, 0, 0, rfl, Nat.le_refl _⟩, by rw [HB.out]; rfl, hbl⟩
        · go_wp2_with fail
          rw [← HWQ.out]
          refine HEN.out.mono ?_
          rintro e wm ⟨rfl, rfl⟩
          go_wp2_with fail
          refine HR.out.mono ?_
          rintro e wn ⟨rfl, hb⟩
          have HZ2 := Lib.hid (HZERO.out.below hb HZERO.out.lt)
          have HBE2 := Lib.hid (HBEL.out.trans (hb.mono HBEL.out.size))
          have hzm2 := HZ2.out.cell
          have hzf2 := HZ2.out.free
          rw [← HPR.out.1] at hzm2 hzf2
          simp only [zc] at hzm2
          have hcm2 := (HUQ2.out.box.below hb HUQ2.out.box.lt).cell
          have HSTR2 : Hid (Strs wn (M + 1) (.slice ka nl kc) vd) := Lib.hid (HSTR.out.below hb (Nat.le_refl _))
          clear hb hzm hzf hcm
          go_wp2_with fail
          obtain ⟨W, hW⟩ : ∃ W, W = set10 wn w.heap.size (.int .i64 va1) (.int .i64 va2) (.int .i64 vb2) (.int .i64 va3) (.int .i64 vb3) (.int .i64 vb1) (.string vc1) (.string vc2) (.string vc3) (.slice ka nl kc) := ⟨_, rfl⟩
          have hbx : Box W w.heap.size #[.int .i64 va1, .int .i64 va2, .int .i64 vb2, .int .i64 va3, .int .i64 vb3, .int .i64 vb1, .string vc1, .string vc2, .string vc3, .slice ka nl kc] := by rw [hW]; exact box_set10 (HPR.out.1 ▸ HZ2.out) (.int .i64 va1) (.int .i64 va2) (.int .i64 vb2) (.int .i64 va3) (.int .i64 vb3) (.int .i64 vb1) (.string vc1) (.string vc2) (.string vc3) (.slice ka nl kc)
          have hbl : Below w.heap.size w W := by rw [hW]; exact below_set10 HBE2.out (Nat.le_refl _) (.int .i64 va1) (.int .i64 va2) (.int .i64 vb2) (.int .i64 va3) (.int .i64 vb3) (.int .i64 vb1) (.string vc1) (.string vc2) (.string vc3) (.slice ka nl kc)
          have hst : Strs W (M + 1) (.slice ka nl kc) vd := by rw [hW]; exact strs_set10 HSTR2.out (by have := HLT.out; have := HPR.out; omega) (.int .i64 va1) (.int .i64 va2) (.int .i64 vb2) (.int .i64 va3) (.int .i64 vb3) (.int .i64 vb1) (.string vc1) (.string vc2) (.string vc3) (.slice ka nl kc)
          unfold set10 at hW
          rw [← hW]
          have hpm := Box.cell hbx
          exact bodyPost_ret (v := .tuple #[MsgM.val ⟨va1, va2, vb2, va3, vb3, vb1, vc1, vc2, vc3, vd⟩ (.slice ka nl kc), .bool true]) (by simp [results, Tryz.results59, go_sem, hpm, MsgM.val, MsgM.cells]) rfl ⟨_, _, by rw [HB.out], strs_low hst (by have := HLT.out; have := HPR.out; omega), HCAP.out, by rw [HB.out, if_pos rfl, HUU.out, ← HUE.out], hbl⟩
    · have he1 : (Oc.endE sd xd != 0) = true := by simpa using he
      have HB : Hid (unpB p = false) := Lib.hid (by
        unfold unpB
        rw [HUQ.out]
        show (decide (Oc.endE sd xd = 0) && _) = false
        rw [decide_eq_false he]
        rfl)
      clear he
      go_wp2_with fail
      rw [← HWQ.out]
      refine HEN.out.mono ?_
      rintro e wm ⟨rfl, rfl⟩
      go_wp2_with fail
      obtain ⟨W, hW⟩ : ∃ W, W = set10 wq w.heap.size (.int .i64 0) (.int .i64 0) (.int .i64 0) (.int .i64 0) (.int .i64 0) (.int .i64 0) (.string ⟨#[]⟩) (.string ⟨#[]⟩) (.string ⟨#[]⟩) (.slice none 0 0) := ⟨_, rfl⟩
      have hbx : Box W w.heap.size #[.int .i64 0, .int .i64 0, .int .i64 0, .int .i64 0, .int .i64 0, .int .i64 0, .string ⟨#[]⟩, .string ⟨#[]⟩, .string ⟨#[]⟩, .slice none 0 0] := by rw [hW]; exact box_set10 (HPR.out.1 ▸ HZERO.out) (.int .i64 0) (.int .i64 0) (.int .i64 0) (.int .i64 0) (.int .i64 0) (.int .i64 0) (.string ⟨#[]⟩) (.string ⟨#[]⟩) (.string ⟨#[]⟩) (.slice none 0 0)
      have hbl : Below w.heap.size w W := by rw [hW]; exact below_set10 HBEL.out (Nat.le_refl _) (.int .i64 0) (.int .i64 0) (.int .i64 0) (.int .i64 0) (.int .i64 0) (.int .i64 0) (.string ⟨#[]⟩) (.string ⟨#[]⟩) (.string ⟨#[]⟩) (.slice none 0 0)
      unfold set10 at hW
      rw [← hW]
      have hpm := Box.cell hbx
      exact bodyPost_ret (v := .tuple #[zeroM.val (.slice none 0 0), .bool false]) (by simp [results, Tryz.results59, go_sem, hpm, zeroM, MsgM.val, MsgM.cells]) rfl ⟨zeroM, .slice none 0 0, by (rw [HB.out]) <;> rfl, ⟨none, 0, rfl, .inl rfl⟩, ⟨none, 0, 0, rfl, Nat.le_refl _⟩, by rw [HB.out]; rfl, hbl⟩
end Go.Proofs.YtelpkniockhjgaaGreat
