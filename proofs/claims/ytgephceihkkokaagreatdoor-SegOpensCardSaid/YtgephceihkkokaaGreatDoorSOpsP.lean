/-
  SegOpens: of any files of a head, which of them a row takes in.
-/
import Derived.Test.YtgephceihkkokaaGreatDoorSRowAll
namespace Go.Proofs.YtgephceihkkokaaGreatDoor
open Go.RowKit Go.Deep
set_option linter.unusedVariables false
set_option linter.unusedSimpArgs false

/-- What a row takes in, of files at places with lengths, by rising places, once it has begun: it stands at `en`. -/
def rowKeep : List (Nat × Nat) → Nat → Nat × Nat
  | [], E => (0, E)
  | (p, l) :: t, E => if p % 16 = 0 ∧ l ≤ 16 ∧ p = E then ((rowKeep t (p + l)).1 + 1, (rowKeep t (p + l)).2) else rowKeep t E
/-- The law's way: one place after the other. -/
def lookL : List (Nat × Nat) → Nat → Option Nat
  | [], _ => none
  | (p, l) :: t, a => if p = a then some l else lookL t a
def lawL (P : List (Nat × Nat)) : Nat → Nat → Nat → Nat × Nat
  | 0, _, E => (0, E)
  | f + 1, a, E => match lookL P a with
    | none => (0, E)
    | some l => if 16 < l then (0, E) else if l < 16 then (1, a + l) else ((lawL P f (a + 16) (a + l)).1 + 1, (lawL P f (a + 16) (a + l)).2)
def Rises (P : List (Nat × Nat)) : Prop := P.Pairwise fun x y => x.1 < y.1
theorem rowKeep_none {P : List (Nat × Nat)} {E : Nat} (h : ∀ x ∈ P, x.1 % 16 = 0 → x.1 ≠ E) : rowKeep P E = (0, E) := by
  induction P with
  | nil => rfl
  | cons x t ih =>
    obtain ⟨p, l⟩ := x
    unfold rowKeep
    rw [if_neg (fun hx => h (p, l) (List.mem_cons_self ..) hx.1 hx.2.2)]
    exact ih fun x hx => h x (List.mem_cons_of_mem _ hx)
theorem lookL_none {P : List (Nat × Nat)} {a : Nat} (h : ∀ x ∈ P, x.1 ≠ a) : lookL P a = none := by
  induction P with
  | nil => rfl
  | cons x t ih =>
    obtain ⟨p, l⟩ := x
    unfold lookL
    rw [if_neg (h (p, l) (List.mem_cons_self ..))]
    exact ih fun x hx => h x (List.mem_cons_of_mem _ hx)
theorem lawL_head {p l : Nat} {t : List (Nat × Nat)} : ∀ (f a E : Nat), p < a → lawL ((p, l) :: t) f a E = lawL t f a E
  | 0, _, _, _ => rfl
  | f + 1, a, E, h => by
    have e : lookL ((p, l) :: t) a = lookL t a := by
      show (if p = a then some l else lookL t a) = _
      rw [if_neg (by omega)]
    unfold lawL
    rw [e]
    have ih := fun E' => lawL_head (p := p) (l := l) (t := t) f (a + 16) E' (by omega)
    simp only [ih]
theorem keep_law : ∀ (P : List (Nat × Nat)) (f E : Nat), Rises P → P.length < f → E % 16 = 0 → rowKeep P E = lawL P f E E
  | [], f, E, _, hf, _ => by
    obtain ⟨f, rfl⟩ : ∃ g, f = g + 1 := ⟨f - 1, by simp at hf; omega⟩
    rfl
  | (p, l) :: t, f, E, hp, hf, hE => by
    obtain ⟨h1, h2⟩ := List.pairwise_cons.1 hp
    have hlt : t.length + 1 < f := hf
    rcases Nat.lt_trichotomy p E with h | h | h
    · rw [lawL_head f E E h, ← keep_law t f E h2 (by omega) hE]
      show (if _ then _ else _) = _
      rw [if_neg (by omega)]
    · subst h
      obtain ⟨g, rfl⟩ : ∃ g, f = g + 1 := ⟨f - 1, by omega⟩
      have e : lookL ((p, l) :: t) p = some l := by
        show (if p = p then some l else lookL t p) = _
        rw [if_pos rfl]
      unfold lawL
      rw [e]
      show (if _ then _ else _) = (if 16 < l then _ else _)
      by_cases hl : 16 < l
      · rw [if_pos hl, if_neg (by omega)]
        exact rowKeep_none fun x hx _ hx2 => by have := h1 x hx; omega
      · rw [if_neg hl, if_pos ⟨hE, by omega, rfl⟩]
        by_cases hs : l < 16
        · rw [if_pos hs, rowKeep_none fun x hx h3 h4 => by have := h1 x hx; simp only at this; omega]
        · obtain rfl : l = 16 := by omega
          rw [if_neg hs, lawL_head g (p + 16) (p + 16) (by omega), ← keep_law t g (p + 16) h2 (by omega) (by omega)]
    · obtain ⟨g, rfl⟩ : ∃ g, f = g + 1 := ⟨f - 1, by omega⟩
      have hno : ∀ x ∈ (p, l) :: t, x.1 ≠ E := fun x hx => by
        rcases List.mem_cons.1 hx with rfl | hx
        · simp only; omega
        · have := h1 x hx; simp only at this; omega
      unfold lawL
      rw [lookL_none hno, rowKeep_none fun x hx _ => hno x hx]
/-- What the row takes in at all: from the first one on that may begin it. -/
def rowTake : List (Nat × Nat) → Option (Nat × Nat × Nat)
  | [] => none
  | (p, l) :: t => if p % 16 = 0 ∧ l ≤ 16 then some (p, (rowKeep t (p + l)).1 + 1, (rowKeep t (p + l)).2) else rowTake t
theorem rowTake_min : ∀ (P : List (Nat × Nat)), Rises P → ∀ b, (∃ l, (b, l) ∈ P ∧ b % 16 = 0 ∧ l ≤ 16) → (∀ x ∈ P, x.1 % 16 = 0 → x.2 ≤ 16 → b ≤ x.1) → rowTake P = some (b, rowKeep P b)
  | [], _, b, ⟨l, h, _⟩, _ => by cases h
  | (p, l) :: t, hp, b, ⟨k, hb, hb0, hk⟩, hm => by
    obtain ⟨h1, h2⟩ := List.pairwise_cons.1 hp
    unfold rowTake
    by_cases hq : p % 16 = 0 ∧ l ≤ 16
    · have hbp : b ≤ p := hm (p, l) (List.mem_cons_self ..) hq.1 hq.2
      obtain rfl : b = p := by
        rcases List.mem_cons.1 hb with h | h
        · exact congrArg Prod.fst h
        · have := h1 _ h; simp only at this; omega
      rw [if_pos hq]
      have e : rowKeep ((b, l) :: t) b = ((rowKeep t (b + l)).1 + 1, (rowKeep t (b + l)).2) := by
        show (if _ then _ else _) = _
        rw [if_pos ⟨hq.1, hq.2, rfl⟩]
      rw [e]
    · rw [if_neg hq]
      have hb' : (b, k) ∈ t := by
        rcases List.mem_cons.1 hb with h | h
        · cases h; exact absurd ⟨hb0, hk⟩ hq
        · exact h
      rw [rowTake_min t h2 b ⟨k, hb', hb0, hk⟩ (fun x hx => hm x (List.mem_cons_of_mem _ hx))]
      have : rowKeep ((p, l) :: t) b = rowKeep t b := by
        show (if _ then _ else _) = _
        rw [if_neg (fun hx => hq ⟨hx.1, hx.2.1⟩)]
      rw [this]
theorem rowTake_none : ∀ (P : List (Nat × Nat)), (∀ x ∈ P, ¬ (x.1 % 16 = 0 ∧ x.2 ≤ 16)) → rowTake P = none
  | [], _ => rfl
  | (p, l) :: t, h => by
    unfold rowTake
    rw [if_neg (h (p, l) (List.mem_cons_self ..))]
    exact rowTake_none t fun x hx => h x (List.mem_cons_of_mem _ hx)
theorem lawL_E {P : List (Nat × Nat)} {f b l : Nat} (h : lookL P b = some l) (hl : l ≤ 16) (E : Nat) : lawL P (f + 1) b E = lawL P (f + 1) b b := by
  unfold lawL
  rw [h]
  simp only
  have h1 : ¬ 16 < l := by omega
  rw [if_neg h1, if_neg h1]
/-- The files of a head whose names tell places, and their lengths. -/
def tellL (st : St) (head : ByteArray) (L : List ByteArray) : List (Nat × Nat) := L.filterMap fun nm => (placeB head nm).map fun a => (a, st.len nm)
theorem tellL_none {st : St} {head nm : ByteArray} {L : List ByteArray} (h : placeB head nm = none) : tellL st head (nm :: L) = tellL st head L := by
  unfold tellL
  rw [List.filterMap_cons]
  simp [h]
theorem tellL_some {st : St} {head nm : ByteArray} {L : List ByteArray} {a : Nat} (h : placeB head nm = some a) : tellL st head (nm :: L) = (a, st.len nm) :: tellL st head L := by
  unfold tellL
  rw [List.filterMap_cons]
  simp [h]
theorem gathF_none {st : St} {m : RowM} {f : Bool} {rs : List ByteArray} {nm : ByteArray} (h : placeB m.head nm = none) : gathF st (m, f, rs) nm = (m, f, rs) := by
  unfold gathF
  simp only [h]
theorem gathF_some {st : St} {m : RowM} {f : Bool} {rs : List ByteArray} {nm : ByteArray} {a : Nat} (h : placeB m.head nm = some a) :
    gathF st (m, f, rs) nm = ((takeR m f a (st.len nm)).1, (takeR m f a (st.len nm)).2.1, if (takeR m f a (st.len nm)).2.2 = true then rs else rs ++ [nm]) := by
  unfold gathF
  simp only [h]
theorem gath_keep (st : St) (head : ByteArray) : ∀ (L : List ByteArray) (m : RowM) (rs : List ByteArray) (E : Nat), m.head = head → m.size = 16 → m.end_ = (E : Int) →
    (L.foldl (gathF st) (m, false, rs)).1.begin_ = m.begin_ ∧ (L.foldl (gathF st) (m, false, rs)).1.end_ = ((rowKeep (tellL st head L) E).2 : Int) ∧
      (L.foldl (gathF st) (m, false, rs)).2.2.length + (rowKeep (tellL st head L) E).1 = rs.length + (tellL st head L).length
  | [], m, rs, E, _, _, h => ⟨rfl, h, rfl⟩
  | nm :: L, m, rs, E, h1, h2, h3 => by
    rw [List.foldl_cons]
    cases hp : placeB head nm with
    | none =>
      rw [gathF_none (by rw [h1]; exact hp), tellL_none hp]
      exact gath_keep st head L m rs E h1 h2 h3
    | some a =>
      rw [gathF_some (by rw [h1]; exact hp), tellL_some hp]
      obtain ⟨l, hl⟩ : ∃ l, l = st.len nm := ⟨_, rfl⟩
      rw [← hl]
      by_cases hq : a % 16 = 0 ∧ l ≤ 16 ∧ a = E
      · have e : takeR m false a l = ({ m with end_ := a + l, next := a + m.size }, false, true) := by
          unfold takeR
          rw [if_neg (by rw [h2]; omega), if_neg (by simp), if_neg (by rw [h3]; omega)]
        have e2 : rowKeep ((a, l) :: tellL st head L) E = ((rowKeep (tellL st head L) (a + l)).1 + 1, (rowKeep (tellL st head L) (a + l)).2) := by
          show (if _ then _ else _) = _
          rw [if_pos hq]
        rw [e, e2]
        have ih := gath_keep st head L { m with end_ := a + l, next := a + m.size } rs (a + l) h1 h2 (by simp)
        refine ⟨ih.1, ih.2.1, ?_⟩
        have := ih.2.2
        rw [List.length_cons]
        simp only [if_true]
        omega
      · have e : takeR m false a l = (m, false, false) := by
          unfold takeR
          by_cases h4 : (a : Int) % m.size ≠ 0 ∨ m.size < l
          · rw [if_pos h4]
          · rw [if_neg h4, if_neg (by simp), if_pos (by rw [h2] at h4; rw [h3]; omega)]
        have e2 : rowKeep ((a, l) :: tellL st head L) E = rowKeep (tellL st head L) E := by
          show (if _ then _ else _) = _
          rw [if_neg hq]
        rw [e, e2]
        have ih := gath_keep st head L m (rs ++ [nm]) E h1 h2 h3
        have e3 : (if false = true then rs else rs ++ [nm]) = rs ++ [nm] := by simp
        refine ⟨by simp only [e3]; exact ih.1, by simp only [e3]; exact ih.2.1, ?_⟩
        have := ih.2.2
        simp only [e3]
        rw [List.length_append] at this
        rw [List.length_cons]
        simp at this
        omega
theorem gath_take (st : St) (head : ByteArray) : ∀ (L : List ByteArray) (m : RowM) (rs : List ByteArray), m.head = head → m.size = 16 →
    match rowTake (tellL st head L) with
    | none => (L.foldl (gathF st) (m, true, rs)).1 = m ∧ (L.foldl (gathF st) (m, true, rs)).2.2.length = rs.length + (tellL st head L).length
    | some (b, k, E) => (L.foldl (gathF st) (m, true, rs)).1.begin_ = (b : Int) ∧ (L.foldl (gathF st) (m, true, rs)).1.end_ = (E : Int) ∧ (L.foldl (gathF st) (m, true, rs)).2.2.length + k = rs.length + (tellL st head L).length
  | [], m, rs, _, _ => ⟨rfl, rfl⟩
  | nm :: L, m, rs, h1, h2 => by
    rw [List.foldl_cons]
    cases hp : placeB head nm with
    | none =>
      rw [gathF_none (by rw [h1]; exact hp), tellL_none hp]
      exact gath_take st head L m rs h1 h2
    | some a =>
      rw [gathF_some (by rw [h1]; exact hp), tellL_some hp]
      obtain ⟨l, hl⟩ : ∃ l, l = st.len nm := ⟨_, rfl⟩
      rw [← hl]
      by_cases hq : a % 16 = 0 ∧ l ≤ 16
      · have e : takeR m true a l = ({ m with begin_ := a, end_ := a + l, next := a + m.size }, false, true) := by
          unfold takeR
          rw [if_neg (by rw [h2]; omega), if_pos rfl]
        have e2 : rowTake ((a, l) :: tellL st head L) = some (a, (rowKeep (tellL st head L) (a + l)).1 + 1, (rowKeep (tellL st head L) (a + l)).2) := by
          show (if _ then _ else _) = _
          rw [if_pos hq]
        rw [e, e2]
        have ih := gath_keep st head L { m with begin_ := a, end_ := a + l, next := a + m.size } rs (a + l) h1 h2 (by simp)
        refine ⟨ih.1, ih.2.1, ?_⟩
        have := ih.2.2
        rw [List.length_cons]
        simp only [if_true]
        omega
      · have e : takeR m true a l = (m, true, false) := by
          unfold takeR
          rw [if_pos (by rw [h2]; omega)]
        have e2 : rowTake ((a, l) :: tellL st head L) = rowTake (tellL st head L) := by
          show (if _ then _ else _) = _
          rw [if_neg hq]
        rw [e, e2]
        have ih := gath_take st head L m (rs ++ [nm]) h1 h2
        have e3 : (if false = true then rs else rs ++ [nm]) = rs ++ [nm] := by simp
        simp only [e3]
        revert ih
        cases rowTake (tellL st head L) with
        | none =>
          intro ih
          refine ⟨ih.1, ?_⟩
          have := ih.2
          rw [List.length_append] at this
          rw [List.length_cons]
          simp at this
          omega
        | some x =>
          obtain ⟨b, k, E⟩ := x
          intro ih
          refine ⟨ih.1, ih.2.1, ?_⟩
          have := ih.2.2
          rw [List.length_append] at this
          rw [List.length_cons]
          simp at this
          omega
/-- What is to be deleted stands in the list that was gone through, in order. -/
theorem gathL_sub (st : St) : ∀ (L : List ByteArray) (x : RowM × Bool × List ByteArray), ∃ l, (L.foldl (gathF st) x).2.2 = x.2.2 ++ l ∧ l.Sublist L
  | [], x => ⟨[], by simp, List.Sublist.slnil⟩
  | nm :: L, x => by
    rw [List.foldl_cons]
    obtain ⟨l, h1, h2⟩ := gathL_sub st L (gathF st x nm)
    obtain ⟨m, f, rs⟩ := x
    have h3 : (gathF st (m, f, rs) nm).2.2 = rs ∨ (gathF st (m, f, rs) nm).2.2 = rs ++ [nm] := by
      cases hp : placeB m.head nm with
      | none => rw [gathF_none hp]; exact .inl rfl
      | some a =>
        rw [gathF_some hp]
        simp only
        split
        · exact .inl rfl
        · exact .inr rfl
    rcases h3 with h3 | h3
    · exact ⟨l, by rw [h1, h3], h2.cons nm⟩
    · exact ⟨nm :: l, by rw [h1, h3]; simp, h2.cons_cons nm⟩
theorem namesS_perm (head : ByteArray) (st : St) : (namesS head st).Perm ((st.fs.map (·.1)).filter fun nm => Lib.hasPrefix nm.data.toList head.data.toList) := by
  have h1 : (st.fs.filter fun p => Lib.hasPrefix p.1.data.toList head.data.toList).map (fun p => p.1.data.toList) = ((st.fs.map (·.1)).filter fun nm => Lib.hasPrefix nm.data.toList head.data.toList).map fun nm => nm.data.toList := by
    rw [List.filter_map, List.map_map]
    rfl
  unfold namesS
  rw [h1]
  refine ((List.mergeSort_perm _ _).map _).trans ?_
  rw [List.map_map]
  have : ((fun l : List UInt8 => (⟨l.toArray⟩ : ByteArray)) ∘ fun nm : ByteArray => nm.data.toList) = id := by funext nm; simp
  rw [this, List.map_id]
theorem namesS_nodup {head : ByteArray} {st : St} (h : (st.fs.map (·.1)).Nodup) : (namesS head st).Nodup := (namesS_perm head st).nodup_iff.2 (List.filter_sublist.nodup h)
theorem namesS_rise (head : ByteArray) (st : St) : (namesS head st).Pairwise fun x y => x.data.toList ≤ y.data.toList := by
  unfold namesS
  rw [List.pairwise_map]
  have tr : ∀ a b c : List UInt8, decide (a ≤ b) = true → decide (b ≤ c) = true → decide (a ≤ c) = true := fun a b c h1 h2 => by simp only [decide_eq_true_eq] at *; exact List.le_trans h1 h2
  have tt : ∀ a b : List UInt8, (decide (a ≤ b) || decide (b ≤ a)) = true := fun a b => by simp only [Bool.or_eq_true, decide_eq_true_eq]; exact List.le_total a b
  exact (List.pairwise_mergeSort tr tt _).imp fun {a b} h => of_decide_eq_true h
theorem tellL_rises (st : St) (head : ByteArray) : ∀ (L : List ByteArray), L.Pairwise (fun x y => x.data.toList ≤ y.data.toList) → L.Nodup → Rises (tellL st head L)
  | [], _, _ => List.Pairwise.nil
  | nm :: L, h1, h2 => by
    rw [List.pairwise_cons] at h1
    rw [List.nodup_cons] at h2
    cases hp : placeB head nm with
    | none => rw [tellL_none hp]; exact tellL_rises st head L h1.2 h2.2
    | some a =>
      rw [tellL_some hp]
      refine List.pairwise_cons.2 ⟨fun x hx => ?_, tellL_rises st head L h1.2 h2.2⟩
      unfold tellL at hx
      obtain ⟨nm2, hm, hx⟩ := List.mem_filterMap.1 hx
      obtain ⟨b, hb, rfl⟩ := Option.map_eq_some_iff.1 hx
      have n1 := name_place hp
      have n2 := name_place hb
      show a < b
      rcases Nat.lt_or_ge a b with h | h
      · exact h
      · exfalso
        have h3 := h1.1 nm2 hm
        have h4 := nameB_le head n2.2 n1.2 h
        rw [n1.1, n2.1] at h4
        have h5 : nm.data.toList = nm2.data.toList := List.le_antisymm h3 h4
        exact h2.1 ((ByteArray.ext (Array.toList_inj.1 h5) : nm = nm2) ▸ hm)
theorem tellL_mem {st : St} {head : ByteArray} {L : List ByteArray} {a l : Nat} : (a, l) ∈ tellL st head L ↔ ∃ nm ∈ L, placeB head nm = some a ∧ l = st.len nm := by
  unfold tellL
  rw [List.mem_filterMap]
  constructor
  · rintro ⟨nm, hm, hx⟩
    obtain ⟨b, hb, hx⟩ := Option.map_eq_some_iff.1 hx
    cases hx
    exact ⟨nm, hm, hb, rfl⟩
  · rintro ⟨nm, hm, hp, rfl⟩
    exact ⟨nm, hm, by rw [hp]; rfl⟩
theorem dropF_len : ∀ (fs : List (ByteArray × FileM)) (nm : ByteArray), (fs.map (·.1)).Nodup → nm ∈ fs.map (·.1) → (dropF fs nm).length + 1 = fs.length
  | [], nm, _, h => by cases h
  | p :: fs, nm, hn, h => by
    rw [List.map_cons, List.nodup_cons] at hn
    unfold dropF
    rw [List.filter_cons]
    by_cases hx : p.1 = nm
    · have h1 : fs.filter (fun q => !decide (q.1 = nm)) = fs := List.filter_eq_self.2 fun q hq => by
        simp only [Bool.not_eq_true', decide_eq_false_iff_not]
        intro hq2
        exact hn.1 (by rw [hx, ← hq2]; exact List.mem_map_of_mem (f := fun p : ByteArray × FileM => p.1) hq)
      simp only [hx, decide_true, Bool.not_true, Bool.false_eq_true, if_false, h1, List.length_cons]
    · simp only [hx, decide_false, Bool.not_false, if_true, List.length_cons]
      rw [List.map_cons, List.mem_cons] at h
      have := dropF_len fs nm hn.2 (h.resolve_left (fun e => hx e.symm))
      unfold dropF at this
      omega
theorem dropF_names (fs : List (ByteArray × FileM)) (nm : ByteArray) (hn : (fs.map (·.1)).Nodup) : ((dropF fs nm).map (·.1)).Nodup ∧ ∀ t, t ∈ (dropF fs nm).map (·.1) ↔ t ∈ fs.map (·.1) ∧ t ≠ nm := by
  refine ⟨(List.filter_sublist.map _).nodup hn, fun t => ?_⟩
  unfold dropF
  constructor
  · intro h
    obtain ⟨p, hp, rfl⟩ := List.mem_map.1 h
    have := List.mem_filter.1 hp
    exact ⟨List.mem_map_of_mem (f := fun p : ByteArray × FileM => p.1) this.1, by simpa using this.2⟩
  · rintro ⟨h, hne⟩
    obtain ⟨p, hp, rfl⟩ := List.mem_map.1 h
    exact List.mem_map.2 ⟨p, List.mem_filter.2 ⟨hp, by simpa using hne⟩, rfl⟩
theorem deleteAll_len : ∀ (ts : List ByteArray) (st : St), (st.fs.map (·.1)).Nodup → ts.Nodup → (∀ t ∈ ts, t ∈ st.fs.map (·.1)) → (deleteAll st ts).fs.length + ts.length = st.fs.length
  | [], st, _, _, _ => rfl
  | t :: ts, st, h1, h2, h3 => by
    rw [List.nodup_cons] at h2
    have hd := dropF_names st.fs t h1
    have ih := deleteAll_len ts (removeS st t) hd.1 h2.2 (fun s hs => (hd.2 s).2 ⟨h3 s (List.mem_cons_of_mem _ hs), fun e => h2.1 (e ▸ hs)⟩)
    have h4 := dropF_len st.fs t h1 (h3 t (List.mem_cons_self ..))
    have e : (removeS st t).fs = dropF st.fs t := rfl
    rw [e] at ih
    show (deleteAll (removeS st t) ts).fs.length + (ts.length + 1) = _
    omega

/-- What the law keeps of the files that tell places: just these, and how long. -/
def HasRel (st : St) (head : ByteArray) (M : List (Int × Int)) : Prop :=
  (M.map (·.1)).Nodup ∧ ∀ x : Int × Int, x ∈ M ↔ ∃ a l : Nat, x = ((a : Int), (l : Int)) ∧ a ≤ 99999999 ∧ nameB head a ∈ st.fs.map (·.1) ∧ l = st.len (nameB head a)
/-- The law's loops, over its map: the least place that may begin a row (-1: none), and what follows. -/
def bestOf (M : List (Int × Int)) (bg : Int) : Prop := (bg = -1 ∧ ∀ x ∈ M, ¬ (x.1 % 16 = 0 ∧ x.2 ≤ 16)) ∨ (0 ≤ bg ∧ (∃ n, (bg, n) ∈ M ∧ bg % 16 = 0 ∧ n ≤ 16) ∧ ∀ x ∈ M, x.1 % 16 = 0 → x.2 ≤ 16 → bg ≤ x.1)
def opensL (st : St) (head : ByteArray) : List (Nat × Nat) := tellL st head (namesS head st)
theorem opensL_mem {st : St} {head : ByteArray} {a l : Nat} : (a, l) ∈ opensL st head ↔ a ≤ 99999999 ∧ nameB head a ∈ st.fs.map (·.1) ∧ l = st.len (nameB head a) := by
  unfold opensL
  rw [tellL_mem]
  constructor
  · rintro ⟨nm, hm, hp, rfl⟩
    have := name_place hp
    rw [← this.1] at hm ⊢
    exact ⟨this.2, (List.mem_filter.1 ((namesS_perm head st).mem_iff.1 hm)).1, rfl⟩
  · rintro ⟨h1, h2, rfl⟩
    exact ⟨nameB head a, (namesS_perm head st).mem_iff.2 (List.mem_filter.2 ⟨h2, nameB_pre head a⟩), place_name head a h1, rfl⟩
theorem HasRel.len {st : St} {head : ByteArray} {M : List (Int × Int)} (h : HasRel st head M) (hn : (st.fs.map (·.1)).Nodup) : (opensL st head).length = M.length := by
  have h1 : ((opensL st head).map fun x : Nat × Nat => ((x.1 : Int), (x.2 : Int))).Perm M := by
    rw [List.perm_ext_iff_of_nodup]
    · intro x
      rw [h.2 x, List.mem_map]
      constructor
      · rintro ⟨⟨a, l⟩, hm, rfl⟩
        exact ⟨a, l, rfl, opensL_mem.1 hm⟩
      · rintro ⟨a, l, rfl, hm⟩
        exact ⟨(a, l), opensL_mem.2 hm, rfl⟩
    · have hr := tellL_rises st head _ (namesS_rise head st) (namesS_nodup hn)
      have : (opensL st head).Pairwise fun x y => ((x.1 : Int), (x.2 : Int)) ≠ ((y.1 : Int), (y.2 : Int)) := hr.imp fun {x y} hxy e => by
        have := congrArg Prod.fst e
        simp only at this
        omega
      exact List.pairwise_map.2 this
    · exact List.Pairwise.imp (fun {x y} hxy e => hxy (congrArg Prod.fst e)) (List.pairwise_map.1 h.1)
  have := h1.length_eq
  rwa [List.length_map] at this
theorem lookL_of {P : List (Nat × Nat)} (hr : Rises P) {a l : Nat} (h : (a, l) ∈ P) : lookL P a = some l := by
  induction P with
  | nil => cases h
  | cons x t ih =>
    obtain ⟨p, k⟩ := x
    obtain ⟨h1, h2⟩ := List.pairwise_cons.1 hr
    unfold lookL
    rcases List.mem_cons.1 h with e | e
    · cases e
      rw [if_pos rfl]
    · have := h1 _ e
      simp only at this
      rw [if_neg (by omega)]
      exact ih h2 e
theorem lookL_mem {P : List (Nat × Nat)} {a l : Nat} (h : lookL P a = some l) : (a, l) ∈ P := by
  induction P with
  | nil => cases h
  | cons x t ih =>
    obtain ⟨p, k⟩ := x
    unfold lookL at h
    split at h
    · rename_i e
      cases h
      rw [e]
      exact List.mem_cons_self ..
    · exact List.mem_cons_of_mem _ (ih h)
/-- What Open answers, and leaves. -/
theorem opens_any {st : St} {head : ByteArray} {M : List (Int × Int)} (h : HasRel st head M) (hn : (st.fs.map (·.1)).Nodup) {bg : Int} (hb : bestOf M bg) :
    (bg = -1 ∧ (openM st head 16).begin_ = 0 ∧ (openM st head 16).end_ = 0 ∧ (openS st head 16).fs.length + M.length = st.fs.length) ∨
    ∃ (b k E : Nat), bg = (b : Int) ∧ (openM st head 16).begin_ = (b : Int) ∧ (openM st head 16).end_ = (E : Int) ∧ (openS st head 16).fs.length + M.length = st.fs.length + k ∧ (k, E) = lawL (opensL st head) ((opensL st head).length + 1) b 0 := by
  have hlen := h.len hn
  have hr := tellL_rises st head _ (namesS_rise head st) (namesS_nodup hn)
  have ht := gath_take st head (namesS head st) (newRow head 16) [] rfl rfl
  have hx : openX st head 16 = (namesS head st).foldl (gathF st) (newRow head 16, true, []) := rfl
  obtain ⟨rs, hrs, hsub⟩ := gathL_sub st (namesS head st) (newRow head 16, true, [])
  rw [← hx] at hrs
  have hdl := deleteAll_len (openX st head 16).2.2 st hn (by rw [hrs]; simpa using hsub.nodup (namesS_nodup hn)) (fun t htm => by
    rw [hrs] at htm
    exact (List.mem_filter.1 ((namesS_perm head st).mem_iff.1 (hsub.subset (by simpa using htm)))).1)
  have hS : (openS st head 16).fs.length + (openX st head 16).2.2.length = st.fs.length := hdl
  rw [← hx] at ht
  rcases hb with ⟨rfl, hno⟩ | ⟨hb0, ⟨n, hbm, hb16, hn16⟩, hmin⟩
  · left
    have htn : rowTake (tellL st head (namesS head st)) = none := rowTake_none _ fun x hxm hq => by
      obtain ⟨a, l⟩ := x
      have := (h.2 ((a : Int), (l : Int))).2 ⟨a, l, rfl, opensL_mem.1 hxm⟩
      have := hno _ this
      simp only at this hq
      omega
    rw [htn] at ht
    simp only at ht
    refine ⟨rfl, ?_, ?_, ?_⟩
    · show (openX st head 16).1.begin_ = 0
      rw [ht.1]; rfl
    · show (openX st head 16).1.end_ = 0
      rw [ht.1]; rfl
    · have := ht.2
      rw [show (tellL st head (namesS head st)) = opensL st head from rfl, hlen] at this
      simp at this
      omega
  · right
    obtain ⟨a, l, hx2, ha, hnm, hl⟩ := (h.2 (bg, n)).1 hbm
    have e1 : bg = (a : Int) := congrArg Prod.fst hx2
    have e2 : n = (l : Int) := congrArg Prod.snd hx2
    subst e1
    have hmem : (a, l) ∈ opensL st head := opensL_mem.2 ⟨ha, hnm, hl⟩
    have htk := rowTake_min (opensL st head) hr a ⟨l, hmem, by omega, by omega⟩ (fun x hxm h1 h2 => by
      obtain ⟨p, k⟩ := x
      have h3 := (h.2 ((p : Int), (k : Int))).2 ⟨p, k, rfl, opensL_mem.1 hxm⟩
      have := hmin _ h3 (by simp only at h1 ⊢; omega) (by simp only at h2 ⊢; omega)
      simp only at this ⊢
      omega)
    rw [show (tellL st head (namesS head st)) = opensL st head from rfl, htk] at ht
    simp only at ht
    have hkl := keep_law (opensL st head) ((opensL st head).length + 1) a hr (by omega) (by omega)
    have hE0 : lawL (opensL st head) ((opensL st head).length + 1) a a = lawL (opensL st head) ((opensL st head).length + 1) a 0 := (lawL_E (P := opensL st head) (f := (opensL st head).length) (lookL_of hr hmem) (by omega) 0).symm
    rw [hkl, hE0] at ht
    obtain ⟨p, hp⟩ : ∃ p, p = lawL (opensL st head) ((opensL st head).length + 1) a 0 := ⟨_, rfl⟩
    rw [← hp] at ht
    refine ⟨a, p.1, p.2, rfl, ht.1, ht.2.1, ?_, hp⟩
    have := ht.2.2
    rw [hlen] at this
    simp at this
    omega
end Go.Proofs.YtgephceihkkokaaGreatDoor
