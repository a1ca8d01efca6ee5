/- A part. -/
import Derived.Sort.KeysCollected
import Derived.Test.YtdnhgodfmjapmaaGreatDoorDno40
set_option linter.unusedVariables false
set_option linter.unusedSimpArgs false
namespace Go.Proofs.YtdnhgodfmjapmaaGreatDoor
open Go.RowKit Go.Deep
attribute [local go_sem] fr_opt
theorem cell_set_out {w : World} {p q : Addr} (h : q.block ≠ p.block) (v : Value) : (w.setCell p v).cell? q = w.cell? q := World.cell?_of_block (Below.heap_setCell _ _ _ _ h)
theorem cell_set_in {w : World} {p : Addr} {u : Value} (h : w.cell? p = some u) (v : Value) : (w.setCell p v).cell? p = some v := World.cell?_setCell_same _ _ _ h
def takeR (m : RowM) (first : Bool) (a l : Nat) : RowM × Bool × Bool :=
  if (a : Int) % m.size ≠ 0 ∨ m.size < l then (m, first, false)
  else if first = true then ({ m with begin_ := a, end_ := a + l, next := a + m.size }, false, true)
  else if (a : Int) ≠ m.end_ then (m, false, false)
  else ({ m with end_ := a + l, next := a + m.size }, false, true)
def TakeTo (b d P F : Nat) (w : World) (r : RowM × Bool × Bool) (e : Ending) (w' : World) : Prop :=
  e = .returned (.bool r.2.2) ∧ RowAt w' b d r.1 ∧ w'.cell? ⟨F, 0, none⟩ = some (.bool r.2.1) ∧ w'.frozen? ⟨F, 0, none⟩ = false ∧ Chg (fun k => k = b ∨ k = F) w w'
set_option maxHeartbeats 1000000 in
set_option maxRecDepth 100000 in
theorem take_any (b d P F : Nat) (m : RowM) (first : Bool) (a l : Nat) (w : World) (hr : RowAt w b d m) (hp : w.cell? ⟨P, 0, none⟩ = some (.pointer (some ⟨b, 0, none⟩))) (hF : w.cell? ⟨F, 0, none⟩ = some (.bool first)) (hz : w.frozen? ⟨F, 0, none⟩ = false)
    (h1 : P ≠ b) (h2 : F ≠ b) (h3 : P ≠ F) (ha : a ≤ 99999999) (hl : l ≤ 1099511627776) (hs1 : 16 ≤ m.size) (hs2 : m.size ≤ 4096) :
    Calls Tryz.prog 190 #[.int .i64 a, .int .i64 l, .pointer (some ⟨P, 0, none⟩), .pointer (some ⟨F, 0, none⟩)] w (TakeTo b d P F w (takeR m first a l)) := by
  obtain ⟨c0, c1, c2, c3, c4, c5, c6, c7, z⟩ := hr.cell
  have z3 := z 3
  have z4 := z 4
  have z5 := z 5
  have HR := Lib.hid hr
  clear z hr
  obtain ⟨head, size, begin_, end_, next, synced, touched⟩ := m
  simp only at *
  have hne : ¬ size = 0 := by omega
  have hneb : (size == 0) = false := by simpa using hne
  unfold takeR
  simp only
  have hw1 : IntKind.i64.wrap ((a : Int) + l) = a + l := IntWalk.i64_in _ (by omega)
  have hw2 : IntKind.i64.wrap ((a : Int) + size) = a + size := IntWalk.i64_in _ (by omega)
  by_cases ht : (a : Int) % size = 0
  · by_cases hl2 : size < (l : Int)
    · rw [if_pos (.inr hl2)]
      have hb : ((a : Int) % size != 0) = false := by simp [ht]
      clear ht
      go_enter Tryz.func190, Tryz.ntmps190
      go_wp2_with fail
      go_ret
      exact ⟨rfl, HR.out, hF, hz, Chg.refl _ _⟩
    · rw [if_neg (fun h => h.elim (fun h => h ht) hl2)]
      have hb : ((a : Int) % size != 0) = false := by simp [ht]
      clear ht
      cases first with
      | true =>
        rw [if_pos rfl]
        go_enter Tryz.func190, Tryz.ntmps190
        go_wp2_with fail
        go_region
        go_wp2_with fail
        go_ret
        have r1 := HR.out.set 3 (.int .i64 a) ⟨head, size, a, end_, next, synced, touched⟩ rfl
        have r2 := r1.chg (Chg.setCell (S := fun k => k = F) (Chg.refl _ _) (p := ⟨F, 0, none⟩) (fun _ => rfl) (.bool false)) (fun hx => h2 hx.symm)
        have r3 := r2.set 4 (.int .i64 (a + l)) ⟨head, size, a, a + l, next, synced, touched⟩ rfl
        have r4 := r3.set 5 (.int .i64 (a + size)) ⟨head, size, a, a + l, a + size, synced, touched⟩ rfl
        refine ⟨rfl, r4, ?_, ?_, ?_⟩
        · refine (cell_set_out h2 _).trans ((cell_set_out h2 _).trans ?_)
          have hF' : (w.setCell ⟨b, 3, none⟩ (.int .i64 a)).cell? ⟨F, 0, none⟩ = some (.bool true) := (cell_set_out h2 _).trans hF
          exact cell_set_in hF' _
        · simp [hz]
        · exact (Chg.setCell (Chg.setCell (Chg.setCell (Chg.setCell (Chg.refl _ _) (fun _ => .inl rfl) _) (fun _ => .inr rfl) _) (fun _ => .inl rfl) _) (fun _ => .inl rfl) _).drew
      | false =>
        rw [if_neg (by simp)]
        by_cases he : (a : Int) = end_
        · rw [if_neg (fun h => h he)]
          have hb2 : ((a : Int) != end_) = false := by simp [he]
          have HE := Lib.hid he
          clear he
          go_enter Tryz.func190, Tryz.ntmps190
          go_wp2_with fail
          go_region
          go_wp2_with fail
          go_ret
          have r3 := HR.out.set 4 (.int .i64 (a + l)) ⟨head, size, begin_, a + l, next, synced, touched⟩ rfl
          have r4 := r3.set 5 (.int .i64 (a + size)) ⟨head, size, begin_, a + l, a + size, synced, touched⟩ rfl
          refine ⟨rfl, r4, ?_, ?_, ?_⟩
          · exact (cell_set_out h2 _).trans ((cell_set_out h2 _).trans hF)
          · simp [hz]
          · exact (Chg.setCell (Chg.setCell (Chg.refl _ _) (fun _ => .inl rfl) _) (fun _ => .inl rfl) _).drew
        · rw [if_pos he]
          have hb2 : ((a : Int) != end_) = true := by simp [he]
          have HE := Lib.hid he
          clear he
          go_enter Tryz.func190, Tryz.ntmps190
          go_wp2_with fail
          go_ret
          exact ⟨rfl, HR.out, hF, hz, Chg.refl _ _⟩
  · rw [if_pos (.inl ht)]
    have hb : ((a : Int) % size != 0) = true := by simp [ht]
    clear ht
    go_enter Tryz.func190, Tryz.ntmps190
    go_wp2_with fail
    go_ret
    exact ⟨rfl, HR.out, hF, hz, Chg.refl _ _⟩
end Go.Proofs.YtdnhgodfmjapmaaGreatDoor
namespace Go.Proofs.YtdnhgodfmjapmaaGreatDoor
open Go.RowKit Go.Deep
theorem place_name (head : ByteArray) (u : Nat) (hu : u ≤ 99999999) : placeB head (nameB head u) = some u := by
  have h1 : Lib.hasPrefix (nameB head u).data.toList head.data.toList = true := by
    rw [nameB_toList]
    simp [Lib.hasPrefix]
  have h2 : Lib.trimPrefix (nameB head u).data.toList head.data.toList = dec8 u := by
    unfold Lib.trimPrefix
    rw [if_pos h1, nameB_toList]
    simp
  unfold placeB
  rw [if_pos h1, h2]
  simp only
  rw [if_pos ⟨dec8_length u, fun b hb => dec8_dig u b hb⟩, val8_dec8 u (by omega)]
theorem name_place {head s : ByteArray} {v : Nat} (h : placeB head s = some v) : nameB head v = s ∧ v ≤ 99999999 := by
  unfold placeB at h
  split at h
  · rename_i hp
    simp only at h
    split at h
    · rename_i hd
      have hv := dec8_val8 hd.1 (fun b hb => hd.2 b hb)
      obtain rfl := Option.some.inj h
      refine ⟨?_, by omega⟩
      apply ByteArray.ext
      apply Array.toList_inj.1
      rw [nameB_toList, hv.1]
      unfold Lib.trimPrefix
      rw [if_pos hp]
      unfold Lib.hasPrefix at hp
      have := List.isPrefixOf_iff_prefix.1 hp
      exact List.prefix_iff_eq_append.1 this
    · cases h
  · cases h
attribute [local go_sem] fr_opt
def namesS (head : ByteArray) (st : St) : List ByteArray := (((st.fs.filter fun p => Lib.hasPrefix p.1.data.toList head.data.toList).map fun p => p.1.data.toList).mergeSort fun x y => decide (x ≤ y)).map fun l => ⟨l.toArray⟩
theorem namesS_length (head : ByteArray) (st : St) : (namesS head st).length ≤ st.fs.length := by
  unfold namesS
  rw [List.length_map, List.length_mergeSort, List.length_map]
  exact List.length_filter_le _ _
theorem namesS_mem {head : ByteArray} {st : St} {nm : ByteArray} (h : nm ∈ namesS head st) : ∃ p ∈ st.fs, p.1 = nm := by
  unfold namesS at h
  obtain ⟨l, hl, rfl⟩ := List.mem_map.1 h
  rw [List.mem_mergeSort] at hl
  obtain ⟨p, hp, rfl⟩ := List.mem_map.1 hl
  exact ⟨p, (List.mem_filter.1 hp).1, by rw [Array.toArray_toList]⟩
theorem list_strs (g : Gh) (st : St) (head : ByteArray) (w : World) (h : DiskAt w g st) (hn : st.fs.length ≤ 1099511627776) :
    Calls Tryz.prog 55 #[.pointer (some ⟨g.d, 0, none⟩), .string head] w fun e w' => ∃ v, e = .returned v ∧ Strs w' w.heap.size v (namesS head st) ∧ Below w.heap.size w w' := by
  refine (list_any g st head w h hn).mono ?_
  rintro e w' ⟨v, vis, rfl, hp, ho, hb⟩
  refine ⟨v, rfl, ?_, hb⟩
  have h2 : (begins head vis).mergeSort (fun x y => decide (x ≤ y)) = ((st.fs.filter fun p => Lib.hasPrefix p.1.data.toList head.data.toList).map fun p => p.1.data.toList).mergeSort fun x y => decide (x ≤ y) := by
    refine mergeSort_of_perm ?_
    unfold begins
    rw [← h.fs, List.filter_map, List.map_map]
    exact (hp.filter _).map _
  have hl : (begins head vis).length = (namesS head st).length := by
    unfold namesS
    rw [List.length_map, ← h2, List.length_mergeSort]
  rw [h2, hl] at ho
  have he : (((st.fs.filter fun p => Lib.hasPrefix p.1.data.toList head.data.toList).map fun p => p.1.data.toList).mergeSort fun x y => decide (x ≤ y)).map encStr = (namesS head st).map Value.string := by
    unfold namesS
    rw [List.map_map]
    rfl
  rw [he] at ho
  rcases ho.2 with ⟨e1, h0⟩ | ⟨g', cap, cur, e1, hbs, hg, h3, h4, h5, h6⟩
  · exact ⟨none, 0, by rw [e1, h0], .inl (List.length_eq_zero_iff.1 h0)⟩
  · refine ⟨_, _, e1, .inr ⟨g', 0, rfl, hbs, fun i hi => ?_⟩⟩
    rw [Nat.mul_one] at h6
    have h7 : (cur.toList.take (namesS head st).length)[i]? = ((namesS head st).map Value.string)[i]? := by rw [h6]
    rw [List.getElem?_take, if_pos hi, Array.getElem?_toList, List.getElem?_map, List.getElem?_eq_getElem hi] at h7
    simp [World.cell?, hg, h7, List.getD_eq_getElem?_getD, List.getElem?_eq_getElem hi]
def gathF (st : St) (x : RowM × Bool × List ByteArray) (nm : ByteArray) : RowM × Bool × List ByteArray :=
  match placeB x.1.head nm with
  | none => x
  | some a => ((takeR x.1 x.2.1 a (st.len nm)).1, (takeR x.1 x.2.1 a (st.len nm)).2.1, if (takeR x.1 x.2.1 a (st.len nm)).2.2 = true then x.2.2 else x.2.2 ++ [nm])
def gathS (st : St) (m : RowM) (l : List ByteArray) : RowM × Bool × List ByteArray := l.foldl (gathF st) (m, true, [])
theorem gathS_snoc (st : St) (m : RowM) (l : List ByteArray) (nm : ByteArray) : gathS st m (l ++ [nm]) = gathF st (gathS st m l) nm := by simp [gathS]
theorem takeR_same (m : RowM) (f : Bool) (a l : Nat) : (takeR m f a l).1.head = m.head ∧ (takeR m f a l).1.size = m.size ∧ (takeR m f a l).1.synced = m.synced ∧ (takeR m f a l).1.touched = m.touched := by
  unfold takeR
  split
  · exact ⟨rfl, rfl, rfl, rfl⟩
  · split
    · exact ⟨rfl, rfl, rfl, rfl⟩
    · split <;> exact ⟨rfl, rfl, rfl, rfl⟩
theorem gathF_same (st : St) (x : RowM × Bool × List ByteArray) (nm : ByteArray) : (gathF st x nm).1.head = x.1.head ∧ (gathF st x nm).1.size = x.1.size ∧ (gathF st x nm).2.2.length ≤ x.2.2.length + 1 ∧ ∀ t ∈ (gathF st x nm).2.2, t ∈ x.2.2 ∨ t = nm := by
  unfold gathF
  split
  · exact ⟨rfl, rfl, by omega, fun t h => .inl h⟩
  · rename_i a _
    have := takeR_same x.1 x.2.1 a (st.len nm)
    refine ⟨this.1, this.2.1, ?_, ?_⟩
    · show (if _ = true then x.2.2 else x.2.2 ++ [nm]).length ≤ _
      split
      · omega
      · simp
    · show ∀ t ∈ (if _ = true then x.2.2 else x.2.2 ++ [nm]), _
      split
      · exact fun t h => .inl h
      · intro t h
        rcases List.mem_append.1 h with h | h
        · exact .inl h
        · exact .inr (by simpa using h)
theorem gathL_same (st : St) : ∀ (l : List ByteArray) (x : RowM × Bool × List ByteArray), (l.foldl (gathF st) x).1.head = x.1.head ∧ (l.foldl (gathF st) x).1.size = x.1.size ∧ (l.foldl (gathF st) x).2.2.length ≤ x.2.2.length + l.length ∧ ∀ t ∈ (l.foldl (gathF st) x).2.2, t ∈ x.2.2 ∨ t ∈ l
  | [], x => ⟨rfl, rfl, Nat.le_refl _, fun t h => .inl h⟩
  | nm :: l, x => by
    rw [List.foldl_cons, List.length_cons]
    have h1 := gathF_same st x nm
    have h2 := gathL_same st l (gathF st x nm)
    refine ⟨h2.1.trans h1.1, h2.2.1.trans h1.2.1, by have := h2.2.2.1; have := h1.2.2.1; omega, fun t ht => ?_⟩
    rcases h2.2.2.2 t ht with h | h
    · rcases h1.2.2.2 t h with h | h
      · exact .inl h
      · exact .inr (h ▸ List.mem_cons_self ..)
    · exact .inr (List.mem_cons_of_mem _ h)
theorem gathS_same (st : St) (m : RowM) (l : List ByteArray) : (gathS st m l).1.head = m.head ∧ (gathS st m l).1.size = m.size ∧ (gathS st m l).2.2.length ≤ l.length ∧ ∀ t ∈ (gathS st m l).2.2, t ∈ l := by
  have := gathL_same st l (m, true, [])
  refine ⟨this.1, this.2.1, by have := this.2.2.1; rw [List.length_nil, Nat.zero_add] at this; exact this, fun t ht => ?_⟩
  rcases this.2.2.2 t ht with h | h
  · cases h
  · exact h
theorem take_one (ts : List ByteArray) {k : Nat} (hk : k < ts.length) : ts.take (k + 1) = ts.take k ++ [ts.getD k ⟨#[]⟩] := by
  rw [List.take_add_one, List.getD_eq_getElem?_getD, List.getElem?_eq_getElem hk]
  rfl
def GathTo (b d : Nat) (w : World) (x : RowM × Bool × List ByteArray) (e : Ending) (w' : World) : Prop :=
  ∃ v, e = .returned v ∧ RowAt w' b d x.1 ∧ Strs w' w.heap.size v x.2.2 ∧ Chg (fun k => k = b) w w'
structure GathI (w5 : World) (b d F : Nat) (x : RowM × Bool × List ByteArray) (v : Value) (wr : World) : Prop where
  row : RowAt wr b d x.1
  fst : wr.cell? ⟨F, 0, none⟩ = some (.bool x.2.1)
  free : wr.frozen? ⟨F, 0, none⟩ = false
  chg : Chg (fun j => j = b ∨ j = F) w5 wr
  own : wr.ownsRow w5.heap.size 9 1 v x.2.2.length (x.2.2.map Value.string)
theorem frozen_chg {S : Nat → Prop} {w w' : World} {p : Addr} {u : Value} (h : w.frozen? p = false) (hc : Chg S w w') (hu : w.cell? p = some u) (hn : ¬ S p.block) : w'.frozen? p = false := by
  unfold World.frozen? at h ⊢
  rw [hc.block p.block (World.block_lt_of_cell? _ _ hu) hn]
  exact h
theorem GathI.new {w5 : World} {b d F : Nat} {x : RowM × Bool × List ByteArray} {v : Value} {wr w' : World} (h : GathI w5 b d F x v wr) (hc : Chg (fun _ => False) wr w') : GathI w5 b d F x v w' :=
  ⟨h.row.chg hc (fun x => x), hc.cell h.fst (fun x => x), frozen_chg h.free hc h.fst (fun x => x), h.chg.trans hc (fun _ _ x => x.elim), hc.row h.own (fun _ _ x => x)⟩
theorem strs_of_own {w : World} {base : Nat} {v : Value} {ts : List ByteArray} (h : w.ownsRow base 9 1 v ts.length (ts.map Value.string)) : Strs w base v ts := by
  rcases h.2 with ⟨e1, h0⟩ | ⟨g', cap, cur, e1, hbs, hg, h3, h4, h5, h6⟩
  · exact ⟨none, 0, by rw [e1, h0], .inl (List.length_eq_zero_iff.1 h0)⟩
  · refine ⟨_, _, e1, .inr ⟨g', 0, rfl, hbs, fun i hi => ?_⟩⟩
    rw [Nat.mul_one] at h6
    have h7 : (cur.toList.take ts.length)[i]? = (ts.map Value.string)[i]? := by rw [h6]
    rw [List.getElem?_take, if_pos hi, Array.getElem?_toList, List.getElem?_map, List.getElem?_eq_getElem hi] at h7
    simp [World.cell?, hg, h7, List.getD_eq_getElem?_getD, List.getElem?_eq_getElem hi]
theorem strs_up {w : World} {b b' : Nat} {v : Value} {ts : List ByteArray} (h : Strs w b v ts) (hb : b' ≤ b) : Strs w b' v ts := by
  obtain ⟨a, cap, h1, h2⟩ := h
  refine ⟨a, cap, h1, ?_⟩
  rcases h2 with h2 | ⟨k, o, h3, h4, h5⟩
  · exact .inl h2
  · exact .inr ⟨k, o, h3, Nat.le_trans hb h4, h5⟩
set_option maxHeartbeats 4000000 in
set_option maxRecDepth 100000 in
theorem gather_any (b : Nat) (g : Gh) (st : St) (m : RowM) (w : World) (hr : RowAt w b g.d m) (hd : DiskAt w g st) (hb : b ∉ g.fp) (hl : st.fs.length ≤ 1048576) (hnm : ∀ p ∈ st.fs, p.1.size ≤ 1048576) (hlen : ∀ nm, st.len nm ≤ 1099511627776)
    (hs1 : 16 ≤ m.size) (hs2 : m.size ≤ 4096) :
    Calls Tryz.prog 96 #[.pointer (some ⟨b, 0, none⟩)] w (GathTo b g.d w (gathS st m (namesS m.head st))) := by
  have hL : ∀ W, Chg (fun _ => False) w W → Calls Tryz.prog 55 #[.pointer (some ⟨g.d, 0, none⟩), .string m.head] W fun e w' => ∃ v, e = .returned v ∧ Strs w' W.heap.size v (namesS m.head st) ∧ Below W.heap.size W w' := fun W hc => list_strs g st m.head W (hd.new hc) (by omega)
  obtain ⟨c0, c1, c2, c3, c4, c5, c6, c7, hz⟩ := hr.cell
  obtain ⟨W1, hW1⟩ : ∃ W, W = (w.alloc (.cells #[.pointer (some ⟨b, 0, none⟩)] 87)).alloc (.cells #[.bool true] 4) := ⟨_, rfl⟩
  have hb1 : Below w.heap.size w W1 := by rw [hW1]; exact ((Below.refl _ _).alloc (Nat.le_refl _) _).alloc (by simp) _
  obtain ⟨P, hP⟩ : ∃ P, P = w.heap.size := ⟨_, rfl⟩
  have hbP : b < P := by rw [hP]; exact hr.lt
  have hsz : W1.heap.size = P + 2 := by rw [hW1, hP]; simp
  have kP : W1.cell? ⟨P, 0, none⟩ = some (.pointer (some ⟨b, 0, none⟩)) := by rw [hW1, hP]; simp
  have kF : W1.cell? ⟨P + 1, 0, none⟩ = some (.bool true) := by rw [hW1, hP]; simp
  have hFh : W1.heap[P + 1]? = some (.cells #[.bool true] 4 (0, 0)) := by
    have := heap_alloc_new (w.alloc (.cells #[.pointer (some ⟨b, 0, none⟩)] 87)) (.cells #[.bool true] 4)
    rw [hW1, hP]
    simpa using this
  have zF : W1.frozen? ⟨P + 1, 0, none⟩ = false := by simp [World.frozen?, hFh]
  have hc1 : Chg (fun _ => False) w W1 := Chg.of_below hb1
  have k0 := hc1.cell c0 (fun x => x)
  have k1 := hc1.cell c1 (fun x => x)
  have hr1 := hr.chg hc1 (fun x => x)
  have hd1 := hd.new hc1
  have hfp : ∀ k ∈ g.fp, k < P := fun k hk => by rw [hP]; exact hd.lt k hk
  obtain ⟨L, hLL⟩ : ∃ L, L = namesS m.head st := ⟨_, rfl⟩
  have hLm : ∀ t ∈ L, t.size ≤ 1048576 := fun t ht => by
    obtain ⟨p, hp, rfl⟩ := namesS_mem (hLL ▸ ht)
    exact hnm p hp
  have hLn : L.length ≤ 1048576 := by rw [hLL]; exact Nat.le_trans (namesS_length _ _) hl
  rw [← hLL] at hL ⊢
  obtain ⟨n, hn⟩ : ∃ n, n = L.length := ⟨_, rfl⟩
  have HN := Lib.hid hn
  rw [← hn] at hLn
  have HL := Lib.hid hL
  have HW1 := Lib.hid hW1
  have HB1 := Lib.hid hb1
  have HKP := Lib.hid kP
  have HKF := Lib.hid (And.intro kF zF)
  have HR1 := Lib.hid hr1
  have HD1 := Lib.hid hd1
  have HFP := Lib.hid hfp
  have HLM := Lib.hid hLm
  have HSZ := Lib.hid hsz
  have HP := Lib.hid hP
  have HB := Lib.hid hb
  have HLEN := Lib.hid hlen
  obtain ⟨i0, hi, hz0, hz1, hz2⟩ := info_parts info_str
  clear hL hd hr hz c0 c1 c2 c3 c4 c5 c6 c7 hb1 hc1 kP kF zF hFh hr1 hd1 hfp hLm hsz hP hb hlen hLL hn hl hnm
  go_enter Tryz.func96, Tryz.ntmps96
  go_wp2_with (go_at_call 139; refine (taking_any b _).mono ?_)
  rintro e wx ⟨rfl, hwx⟩
  rw [← hW1] at hwx
  subst hwx
  rw [← HP.out]
  clear hW1
  go_wp2_with fail
  go_region_held3 (fun w' => w'.cell? ⟨b, 0, none⟩ = some (.pointer (some ⟨g.d, 0, none⟩)) ∧ w'.cell? ⟨b, 1, none⟩ = some (.string m.head))
    (first | exact ⟨k0, k1⟩ | go_keep)
    (first
      | (go_at_call 55
         ((with_reducible refine (HL.out _ ?_).mono ?_))
         · repeat (first | exact Chg.of_below HB1.out | with_reducible refine Chg.drew ?_ | with_reducible refine Chg.drewN ?_ _)
         rintro e w5 ⟨lv, rfl, hsv, hb5⟩
         obtain ⟨la, lc, hlv⟩ := hsv.form
         rw [← HN.out] at hlv
         subst hlv
         have k0 := (Chg.of_below (S := fun _ => False) hb5).cell (p := ⟨b, 0, none⟩) k0 (fun x => x)
         have k1 := (Chg.of_below (S := fun _ => False) hb5).cell (p := ⟨b, 1, none⟩) k1 (fun x => x)
         have HB5 := Lib.hid hb5
         have HSV := Lib.hid hsv
         clear hb5 hsv))
  have hc5 : Chg (fun _ => False) wx w5 := (Chg.refl _ _).drew.trans (Chg.of_below HB5.out) (fun _ _ x => x)
  have hi5 : GathI w5 b g.d (P + 1) (m, true, []) (.slice none 0 0) w5 :=
    ⟨HR1.out.chg hc5 (fun x => x), hc5.cell HKF.out.1 (fun x => x), frozen_chg HKF.out.2 hc5 HKF.out.1 (fun x => x), Chg.refl _ _, World.ownsRow_nil _ _ _ _⟩
  have HC5 := Lib.hid hc5
  have HI5 := Lib.hid hi5
  clear hc5 hi5 k0 k1
  go_wp2_with fail
  go_loopw [4, 6, 7, 8, 21] (fun r _ _ _ i wr => ∃ k : Nat, k ≤ n ∧ i = .int .i64 k ∧ ∃ v, v = r ∧ GathI w5 b g.d (P + 1) (gathS st m (L.take k)) v wr) (fun _ _ _ _ i _ => n - (intOf i).toNat)
  case atStart => exact ⟨0, Nat.zero_le _, rfl, _, rfl, by first | exact HI5.out | exact HI5.out.new (Chg.refl _ _).drew | exact HI5.out.new ((Chg.refl _ _).drewN _)⟩
  case round =>
    obtain ⟨k, hk, rfl, v, rfl, hgi⟩ := hrel
    have HGI := Lib.hid hgi
    clear hgi HI5
    by_cases hlt : k < n
    · have hlt' : k < L.length := by rw [← HN.out]; exact hlt
      obtain ⟨nm, hnm⟩ : ∃ nm, nm = L.getD k ⟨#[]⟩ := ⟨_, rfl⟩
      have hsnoc := take_one L hlt'
      rw [← hnm] at hsnoc
      have hmem : nm ∈ L := by rw [hnm, List.getD_eq_getElem?_getD, List.getElem?_eq_getElem hlt']; exact List.getElem_mem hlt'
      have hns := HLM.out nm hmem
      obtain ⟨nb, no, rfl, hcell⟩ : ∃ nb no, la = some ⟨nb, no, none⟩ ∧ wr.cell? ⟨nb, no + k, none⟩ = some (.string nm) := by
        obtain ⟨a', cap', e, h⟩ := HSV.out
        cases e
        rcases h with h | ⟨nb, no, rfl, hbase, h⟩
        · rw [h] at hlt'; cases hlt'
        · refine ⟨nb, no, rfl, HGI.out.chg.cell (p := ⟨nb, no + k, none⟩) (by rw [hnm]; exact h k hlt') ?_⟩
          have h1 := HSZ.out
          have h2 : wx.heap.size ≤ nb := hbase
          show ¬ (nb = b ∨ nb = P + 1)
          omega
      have HSN : Hid (gathS st m (L.take (k + 1)) = gathF st (gathS st m (L.take k)) nm) := by
        show _ = _
        rw [hsnoc, gathS_snoc]
      have hsame := gathS_same st m (L.take k)
      obtain ⟨⟨m1, f1, rs⟩, hx⟩ : ∃ x, x = gathS st m (L.take k) := ⟨_, rfl⟩
      rw [← hx] at HGI HSN hsame
      simp only at hsame
      obtain ⟨e1, e2, e3, -⟩ := hsame
      have hrl : rs.length ≤ 1048576 := by rw [List.length_take] at e3; omega
      obtain ⟨c0, c1, c2, c3, c4, c5, c6, c7, hz⟩ := HGI.out.row.cell
      simp only at c0 c1
      rw [e1] at c1
      have HE := Lib.hid (And.intro e1 e2)
      clear hsnoc hmem hnm hx e1 e2 e3 c2 c3 c4 c5 c6 c7 hz hlt'
      cases hp : placeB m.head nm with
      | none =>
        have hPL : Calls Tryz.prog 140 #[.string m.head, .string nm] wr (PlaceTo m.head nm wr) := place_any m.head nm wr (by omega)
        unfold PlaceTo at hPL
        rw [hp] at hPL
        simp only [Option.getD_none, Option.isSome_none] at hPL
        have HPL := Lib.hid hPL
        have HX : Hid (gathS st m (L.take (k + 1)) = (m1, f1, rs)) := by
          show _ = _
          rw [HSN.out]
          unfold gathF
          simp only [HE.out.1]
          rw [hp]
        clear hPL hp
        go_wp2_with (go_at_call 140; refine HPL.out.mono ?_; rintro e w6 ⟨rfl, hb6⟩)
        have hg6 := HGI.out.new (Chg.of_below hb6)
        refine ⟨⟨k + 1, by omega, by go_num, v, rfl, ?_⟩, by simp [intOf]; omega⟩
        rw [HX.out]
        first | exact hg6 | exact hg6.new (Chg.refl _ _).drew | exact hg6.new ((Chg.refl _ _).drewN _)
      | some a =>
        have ha := (name_place hp).2
        have hPL : Calls Tryz.prog 140 #[.string m.head, .string nm] wr (PlaceTo m.head nm wr) := place_any m.head nm wr (by omega)
        unfold PlaceTo at hPL
        rw [hp] at hPL
        simp only [Option.getD_some, Option.isSome_some] at hPL
        have HPL := Lib.hid hPL
        obtain ⟨⟨m2, f2, t⟩, hx2⟩ : ∃ x2, x2 = takeR m1 f1 a (st.len nm) := ⟨_, rfl⟩
        have HX : Hid (gathS st m (L.take (k + 1)) = (m2, f2, if t = true then rs else rs ++ [nm])) := by
          show _ = _
          rw [HSN.out]
          unfold gathF
          simp only [HE.out.1]
          rw [hp]
          simp only [← hx2]
        have hFI := HSZ.out
        have hC5 := HC5.out.size
        obtain ⟨ln, hln⟩ : ∃ ln, ln = st.len nm := ⟨_, rfl⟩
        have hLE : ∀ W, GathI w5 b g.d (P + 1) (m1, f1, rs) v W → Calls Tryz.prog 141 #[.pointer (some ⟨g.d, 0, none⟩), .string nm] W fun e w' => e = .returned (.int .i64 ln) ∧ W = w' := fun W hW => by
          rw [hln]
          refine len_any g st nm W ((HD1.out.new HC5.out).chg hW.chg (fun q hq hx => ?_)) (by unfold maxLen; omega)
          rcases hx with hx | hx
          · exact HB.out (hx ▸ hq)
          · have := HFP.out q hq
            omega
        have hTK : ∀ W, GathI w5 b g.d (P + 1) (m1, f1, rs) v W → Calls Tryz.prog 190 #[.int .i64 a, .int .i64 ln, .pointer (some ⟨P, 0, none⟩), .pointer (some ⟨P + 1, 0, none⟩)] W (TakeTo b g.d P (P + 1) W (m2, f2, t)) := fun W hW => by
          rw [hx2, ← hln]
          exact take_any b g.d P (P + 1) m1 f1 a ln W hW.row (hW.chg.cell (p := ⟨P, 0, none⟩) (HC5.out.cell HKP.out (fun x => x)) (fun hx => by simp only at hx; omega)) hW.fst hW.free (by omega) (by omega) (by omega) ha (by rw [hln]; exact HLEN.out nm) (by rw [HE.out.2]; exact hs1) (by rw [HE.out.2]; exact hs2)
        have HLE := Lib.hid hLE
        have HTK := Lib.hid hTK
        clear hPL hp hx2 hLE hTK hln hFI hC5
        go_wp2_with (go_at_call 140; refine HPL.out.mono ?_; rintro e w6 ⟨rfl, hb6⟩; have hg6 := HGI.out.new (Chg.of_below hb6); have d0 := hg6.row.cell.1)
        have HG6 := Lib.hid hg6
        clear hb6 hg6 c0 c1 HPL
        go_wp2_with (go_at_call 141; refine (HLE.out _ (by first | exact HG6.out | exact HG6.out.new (Chg.refl _ _).drew | exact HG6.out.new ((Chg.refl _ _).drewN _))).mono ?_; rintro e w7 ⟨rfl, rfl⟩)
        go_wp2_with (go_at_call 190; refine (HTK.out _ (by first | exact HG6.out | exact HG6.out.new (Chg.refl _ _).drew | exact HG6.out.new ((Chg.refl _ _).drewN _))).mono ?_)
        rintro e w8 ⟨rfl, hr8, hf8, hz8, hc8⟩
        simp only at hr8 hf8
        have hlw : w5.heap.size ≤ w6.heap.size := HG6.out.chg.size
        have hg8 : GathI w5 b g.d (P + 1) (m2, f2, rs) v w8 := by
          refine ⟨hr8, hf8, hz8, HG6.out.chg.trans hc8 (fun _ _ x => x), hc8.row HG6.out.own (fun q hq hx => ?_)⟩
          have h1 := (HG6.out.own.lt q hq).1
          have h2 := HSZ.out
          have h3 := HC5.out.size
          rcases hx with hx | hx <;> omega
        have HG8 := Lib.hid hg8
        have hlw8 : w5.heap.size ≤ w8.heap.size := hg8.chg.size
        clear hr8 hf8 hz8 hc8 hg8 d0 HGI hlw
        cases t with
        | true =>
          go_wp2_with fail
          refine ⟨⟨k + 1, by omega, by go_num, v, rfl, ?_⟩, by simp [intOf]; omega⟩
          rw [HX.out]
          first | exact HG8.out | exact HG8.out.new (Chg.refl _ _).drew | exact HG8.out.new ((Chg.refl _ _).drewN _)
        | false =>
          go_wp2_with (at_builtin; refine wpList_append_own _ rfl (.tmp 47) (.tmp 49) 44 rfl w5.heap.size 9 i0 (.string ⟨#[]⟩) 1 16 Tryz.underlying44 hi hz0 hz1 hz2 rfl (by decide) v rs.length (rs.map Value.string) rfl (HG8.out.own.alloc _) ⟨w8.heap.size, 0, none⟩ 1 1 [.string nm] rfl rfl ?c1 ?c2 ?c3 ?c4 ?c5 ?c6)
          case c1 => exact cell_one_new _ _ _
          case c2 => intro u hu; simp at hu; rw [hu]; rfl
          case c3 => unfold maxLen; omega
          case c4 => omega
          case c5 => simp; omega
          case c6 =>
            intro v' w9 hown9 hgrow9 _
            have hc9 : Chg (fun q => some q = v.ownBlock) (w8.alloc (.cells #[.string nm] 9)) w9 := Chg.of_grown hgrow9 (fun q hq _ => hq.symm)
            have ha9 : Chg (fun _ => False) w8 (w8.alloc (.cells #[.string nm] 9)) := Chg.alloc _ (Chg.refl _ _) _
            have hi9 := HG8.out.new ha9
            have hlw := hi9.own.lt
            have h2 := HSZ.out
            have h3 := HC5.out.size
            have nb1 : ¬ some b = v.ownBlock := fun hx => by have := (hlw b hx.symm).1; omega
            have nb2 : ¬ some (P + 1) = v.ownBlock := fun hx => by have := (hlw (P + 1) hx.symm).1; omega
            have hg9 : GathI w5 b g.d (P + 1) (m2, f2, rs ++ [nm]) v' w9 := by
              refine ⟨hi9.row.chg hc9 nb1, hc9.cell hi9.fst nb2, frozen_chg hi9.free hc9 hi9.fst nb2, hi9.chg.trans hc9 (fun q hq hx => ?_), ?_⟩
              · have := (hlw q hx.symm).1
                omega
              · simp only [List.length_append, List.map_append, List.map_cons, List.map_nil, List.length_cons, List.length_nil]
                exact hown9
            have HG9 := Lib.hid hg9
            clear hc9 ha9 hi9 hlw h2 h3 nb1 nb2 hg9 hown9 hgrow9
            go_wp2_with fail
            refine ⟨⟨k + 1, by omega, by go_num, v', rfl, ?_⟩, by simp [intOf]; omega⟩
            rw [HX.out]
            first | exact HG9.out | exact HG9.out.new (Chg.refl _ _).drew | exact HG9.out.new ((Chg.refl _ _).drewN _)
    · obtain rfl : k = n := by omega
      rw [HN.out, List.take_length] at HGI
      go_wp2_with fail
      go_ret
      refine ⟨_, rfl, HGI.out.row, ?_, ?_⟩
      · refine strs_up (strs_of_own HGI.out.own) ?_
        have h1 := HSZ.out
        have h2 := HC5.out.size
        have h3 := HP.out
        omega
      · have h4 : Chg (fun k => k = b) w w5 := ((Chg.of_below (S := fun _ => False) HB1.out).trans HC5.out (fun _ _ x => x)).wide (fun _ _ x => x.elim)
        refine h4.trans HGI.out.chg (fun i hi hx => ?_)
        rcases hx with hx | hx
        · exact hx
        · have h3 := HP.out
          omega
end Go.Proofs.YtdnhgodfmjapmaaGreatDoor
namespace Go.Proofs.YtdnhgodfmjapmaaGreatDoor
open Go.RowKit Go.Deep
attribute [local go_sem] fr_opt
theorem find_some_mem {st : St} {nm : ByteArray} (h : ∃ p ∈ st.fs, p.1 = nm) : (st.find nm).isSome = true := by
  obtain ⟨p, hp, rfl⟩ := h
  unfold St.find
  rw [Option.isSome_map, List.find?_isSome]
  exact ⟨p, hp, by simp⟩
theorem Calm.readyE {n : Nat} {st : St} (h : Calm n st) {ts : List ByteArray} (ht : ∀ t ∈ ts, (st.find t).isSome = true) : Go.Proofs.YtdnhgodfmjapmaaGreatDoor.readyE st ts = 0 := by
  unfold Go.Proofs.YtdnhgodfmjapmaaGreatDoor.readyE
  rw [if_neg (by rw [h.down]; simp), if_pos]
  rw [List.all_eq_true]
  exact ht
theorem Calm.deleteE {n : Nat} {st : St} (h : Calm n st) {ts : List ByteArray} (ht : ∀ t ∈ ts, (st.find t).isSome = true) : Go.Proofs.YtdnhgodfmjapmaaGreatDoor.deleteE st ts = 0 := by
  unfold Go.Proofs.YtdnhgodfmjapmaaGreatDoor.deleteE
  rw [if_pos (h.readyE ht), h.burnE]
theorem Calm.deleteS {n : Nat} {st : St} (h : Calm n st) {ts : List ByteArray} (ht : ∀ t ∈ ts, (st.find t).isSome = true) : Go.Proofs.YtdnhgodfmjapmaaGreatDoor.deleteS st ts = deleteAll st ts := by
  unfold Go.Proofs.YtdnhgodfmjapmaaGreatDoor.deleteS
  rw [if_pos (h.readyE ht), if_pos h.burnE, h.burnS]
theorem deleteAll_keeps (st : St) (ts : List ByteArray) : (deleteAll st ts).lit = st.lit ∧ (deleteAll st ts).down = st.down ∧ (deleteAll st ts).cap = st.cap := by
  unfold deleteAll
  induction ts generalizing st with
  | nil => exact ⟨rfl, rfl, rfl⟩
  | cons t ts ih => exact ih (removeS st t)
theorem Calm.delete {n : Nat} {st : St} (h : Calm n st) (ts : List ByteArray) : Calm n (deleteAll st ts) :=
  ⟨h.good.deleteAll ts, (deleteAll_keeps st ts).1.trans h.lit, (deleteAll_keeps st ts).2.1.trans h.down⟩
theorem Good.lenN {n : Nat} {st : St} (h : Good n st) (nm : ByteArray) : st.len nm ≤ 16777216 := by
  have := h.sizeOk.len nm
  have := h.size
  have := h.cap
  omega
def openX (st : St) (head : ByteArray) (size : Int) : RowM × Bool × List ByteArray := gathS st (newRow head size) (namesS head st)
def openM (st : St) (head : ByteArray) (size : Int) : RowM := { (openX st head size).1 with synced := (openX st head size).1.begin_, touched := (openX st head size).1.begin_ }
def openS (st : St) (head : ByteArray) (size : Int) : St := deleteAll st (openX st head size).2.2
def OpenG (w0 : World) (g : Gh) (st : St) (m : RowM) (w : World) (e : Ending) (w' : World) : Prop :=
  ∃ b, e = .returned (.tuple #[.pointer (some ⟨b, 0, none⟩), .int .i64 0]) ∧ w.heap.size ≤ b ∧ ∃ g', RowG w0 w' b g' st m ∧ Gh.To w g g' w'
theorem openX_found (st : St) (head : ByteArray) (size : Int) : ∀ t ∈ (openX st head size).2.2, (st.find t).isSome = true := fun t ht =>
  find_some_mem (namesS_mem ((gathS_same st (newRow head size) (namesS head st)).2.2.2 t ht))
set_option maxHeartbeats 1000000 in
set_option maxRecDepth 100000 in
theorem open_calm (w0 : World) (g : Gh) (st : St) (head : ByteArray) (size : Int) (n : Nat) (w : World) (hd : DiskAt w g st) (hc : Chg (fun _ => False) w0 w) (hlow : ∀ k ∈ g.fp, w0.heap.size ≤ k) (ht : Tab10 w0)
    (hk : Calm n st) (hn : n ≤ 1048576) (hnm : ∀ p ∈ st.fs, p.1.size ≤ 1048576) (hs1 : 16 ≤ size) (hs2 : size ≤ 4096) :
    Calls Tryz.prog 51 #[.pointer (some ⟨g.d, 0, none⟩), .string head, .int .i64 size] w (OpenG w0 g (openS st head size) (openM st head size) w) := by
  have hD := down_any g st w hd
  rw [hk.down] at hD
  obtain ⟨W1, hW1⟩ : ∃ W, W = w.alloc (.cells ((newRow head size).cells g.d) 137) := ⟨_, rfl⟩
  have hc1 : Chg (fun _ => False) w W1 := hW1 ▸ Chg.alloc _ (Chg.refl _ _) _
  have hd1 := hd.new hc1
  have hr1 : RowAt W1 w.heap.size g.d (newRow head size) := by unfold RowAt; rw [hW1]; exact heap_alloc_new w _
  have hout : w.heap.size ∉ g.fp := fun hx => (by have := hd.lt _ hx; omega)
  have hg1 : RowG w0 W1 w.heap.size g st (newRow head size) := ⟨hd1, hr1, hout, hc.trans hc1 (fun _ _ x => x), hlow, hc.size, ht⟩
  have hG := gather_any w.heap.size g st (newRow head size) W1 hr1 hd1 hout (by have := hk.good.len; omega) hnm (fun nm => by have := hk.good.lenN nm; omega) hs1 hs2
  rw [show (newRow head size).head = head from rfl, show gathS st (newRow head size) (namesS head st) = openX st head size from rfl] at hG
  have hfound := openX_found st head size
  have hlen : (openX st head size).2.2.length ≤ 1048576 := by
    have h1 := (gathS_same st (newRow head size) (namesS head st)).2.2.1
    have h2 := namesS_length head st
    have h3 := hk.good.len
    exact Nat.le_trans h1 (by omega)
  have hDL : ∀ W v, DiskAt W g st → Strs W W1.heap.size v (openX st head size).2.2 → Calls Tryz.prog 56 #[.pointer (some ⟨g.d, 0, none⟩), v] W (OpTo g 0 (openS st head size) W) := fun W v hdW hsv => by
    have := delete_any g st v _ W hdW (strs_up hsv (Nat.zero_le _)) (fun q o len cap hv h0 hx => by
      obtain ⟨a, c, e, h⟩ := hsv
      rw [e] at hv
      cases hv
      rcases h with h | ⟨q', o', hq, hb, _⟩
      · rw [h] at h0; exact absurd h0 (by simp)
      · cases hq
        have h1 := hd.lt _ hx
        have h2 := hc1.size
        omega) (fun t ht => by
      obtain ⟨p, hp, rfl⟩ := namesS_mem ((gathS_same st (newRow head size) (namesS head st)).2.2.2 t ht)
      have := hnm p hp
      unfold maxLen
      omega) (by omega) hk.good.fuse hk.good.sizeOk (by have := hk.good.size; have := hk.good.cap; omega)
    rwa [hk.deleteE hfound, hk.deleteS hfound] at this
  have hsame := gathS_same st (newRow head size) (namesS head st)
  rw [show gathS st (newRow head size) (namesS head st) = openX st head size from rfl] at hsame
  have hMM : openM st head size = { (openX st head size).1 with synced := (openX st head size).1.begin_, touched := (openX st head size).1.begin_ } := rfl
  have hnil : (openX st head size).2.2 = [] → openS st head size = st := fun h => by unfold openS; rw [h]; rfl
  obtain ⟨⟨m1, f1, rs⟩, hx⟩ : ∃ x, x = openX st head size := ⟨_, rfl⟩
  rw [← hx] at hG hDL hMM hnil hlen
  simp only at hG hDL hMM hnil hlen
  obtain ⟨n', hn'⟩ : ∃ n', n' = rs.length := ⟨_, rfl⟩
  have HN := Lib.hid hn'
  have HD := Lib.hid hD
  have HG := Lib.hid hG
  have HG1 := Lib.hid hg1
  have HW1 := Lib.hid hW1
  have HC1 := Lib.hid hc1
  have HDL := Lib.hid hDL
  have HMM := Lib.hid hMM
  have HNIL := Lib.hid hnil
  have HOUT := Lib.hid hout
  rw [← hn'] at hlen
  clear hD hG hg1 hr1 hd1 hc1 hd hDL hMM hfound hsame hx hk hnm hnil hn' hn hout
  go_enter Tryz.func51, Tryz.ntmps51
  go_wp2_with (go_at_call 70; refine HD.out.mono ?_; rintro e wx ⟨rfl, rfl⟩)
  unfold newRow RowM.cells at hW1
  simp only at hW1
  rw [← hW1]
  go_wp2_with (go_at_call 96; refine HG.out.mono ?_)
  rintro e w2 ⟨rv, rfl, hr2, hs2', hc2⟩
  simp only at hr2 hs2'
  obtain ⟨ra, rc, hrv⟩ := hs2'.form
  rw [← HN.out] at hrv
  subst hrv
  have hg2 : RowG w0 w2 w.heap.size g st m1 := by
    have ht2 : RowTo W1 w.heap.size g g w2 := ⟨hc2.wide (fun _ _ x => .inl x), fun _ x => .inl x, rfl⟩
    exact HG1.out.step (HG1.out.disk.chg hc2 (fun q hq hx => HOUT.out (hx ▸ hq))) hr2 ht2
  have HG2 := Lib.hid hg2
  have HS2 := Lib.hid hs2'
  have HC2 := Lib.hid hc2
  have k0 := hg2.row.cell.1
  clear hr2 hs2' hc2 hg2 hW1
  have hfin : ∀ W g' st', RowG w0 W w.heap.size g' st' m1 → Gh.To w2 g g' W → Gh.To w g g' W := fun W g' st' _ hto => by
    have hs1 := HC1.out.size
    have hs2 := HC2.out.size
    refine ⟨⟨hto.chg.os.trans (HC2.out.os.trans HC1.out.os), hto.chg.tape.trans (HC2.out.tape.trans HC1.out.tape), hto.chg.output.trans (HC2.out.output.trans HC1.out.output), by have := hto.chg.size; omega, fun q hq hx => ?_⟩, fun q hq => ?_, hto.d⟩
    · rw [hto.chg.block q (by omega) hx, HC2.out.block q (by omega) (by omega), HC1.out.block q hq (fun x => x)]
    · rcases hto.fp q hq with h | h
      · exact .inl h
      · exact .inr (by omega)
  have HFIN := Lib.hid hfin
  clear hfin
  by_cases hr0 : n' = 0
  case' pos =>
    subst hr0
    go_wp2_with fail
    generalize hw3 : w2 = w3
    obtain ⟨g3, hg3⟩ : ∃ g3, g3 = g := ⟨_, rfl⟩
    have h3 : RowG w0 w3 w.heap.size g3 (openS st head size) m1 ∧ Gh.To w g g3 w3 := by
      have e := HNIL.out (List.length_eq_zero_iff.1 HN.out.symm)
      rw [hg3, e, ← hw3]
      exact ⟨HG2.out, HFIN.out w2 g st HG2.out (Gh.To.refl _ _)⟩
    clear hw3 hg3
  case' neg =>
    have hpos : 0 < n' := by omega
    go_wp2_with (go_at_call 56; refine (HDL.out _ _ HG2.out.disk HS2.out).mono ?_; rintro e w3 ⟨rfl, g3, hd3, ht3⟩)
    have h3 : RowG w0 w3 w.heap.size g3 (openS st head size) m1 ∧ Gh.To w g g3 w3 := by
      have h4 := HG2.out.op hd3 ht3
      exact ⟨h4.1, HFIN.out w3 g3 _ h4.1 ht3⟩
    clear hd3 ht3
  all_goals
    obtain ⟨c0, c1, c2, c3, c4, c5, c6, c7, hz⟩ := h3.1.row.cell
    have z6 := hz 6
    have z7 := hz 7
    have H3 := Lib.hid h3
    clear h3 hz c0 c1 c2 c4 c5 k0
    go_region
    go_wp2_with fail
    go_ret2
    have h4 := H3.out.1.set 6 (.int .i64 m1.begin_) { m1 with synced := m1.begin_ } rfl
    have h5 := h4.1.set 7 (.int .i64 m1.begin_) { m1 with synced := m1.begin_, touched := m1.begin_ } rfl
    rw [← HMM.out] at h5
    have h6 : Gh.To w g g3 ((w3.setCell ⟨w.heap.size, 6, none⟩ (.int .i64 m1.begin_)).setCell ⟨w.heap.size, 7, none⟩ (.int .i64 m1.begin_)) :=
      ⟨Chg.setCell (Chg.setCell H3.out.2.chg (fun hx => absurd hx (Nat.lt_irrefl _)) _) (fun hx => absurd hx (Nat.lt_irrefl _)) _, H3.out.2.fp, H3.out.2.d⟩
    refine ⟨w.heap.size, rfl, Nat.le_refl _, g3, ?_, ?_⟩
    · first | exact h5.1 | exact h5.1.drew | exact h5.1.drewN _
    · first | exact h6 | exact ⟨h6.chg.drew, h6.fp, h6.d⟩
end Go.Proofs.YtdnhgodfmjapmaaGreatDoor
namespace Go.Proofs.YtdnhgodfmjapmaaGreatDoor
open Go.RowKit Go.Deep
attribute [local go_sem] fr_opt
def plF (x z : Nat) : Nat → Nat → List Nat
  | 0, _ => []
  | f + 1, u => if u < x then u :: plF x z f (u + z) else []
theorem plF_done (x z : Nat) {u : Nat} (h : ¬ u < x) : ∀ f, plF x z f u = []
  | 0 => rfl
  | f + 1 => by unfold plF; rw [if_neg h]
theorem plF_more (x z : Nat) (hz : 0 < z) : ∀ (f : Nat) (u : Nat), x - u ≤ f → plF x z (f + 1) u = plF x z f u
  | 0, u, h => by rw [plF_done x z (by omega), plF_done x z (by omega)]
  | f + 1, u, h => by
    by_cases hu : u < x
    · unfold plF
      rw [if_pos hu, if_pos hu, plF_more x z hz f (u + z) (by omega)]
    · rw [plF_done x z hu, plF_done x z hu]
def plS (x z u : Nat) : List Nat := plF x z x u
theorem plS_step (x z u : Nat) (hz : 0 < z) (hu : u < x) : plS x z u = u :: plS x z (u + z) := by
  unfold plS
  rw [← plF_more x z hz x u (by omega)]
  show (if u < x then _ else _) = _
  rw [if_pos hu]
theorem plS_done (x z u : Nat) (hu : ¬ u < x) : plS x z u = [] := plF_done x z hu x
theorem plS_mem {x z : Nat} (hz : 0 < z) (f u : Nat) (hf : x - u ≤ f) : ∀ p ∈ plS x z u, u ≤ p ∧ p < x := by
  induction f generalizing u with
  | zero => rw [plS_done x z u (by omega)]; exact fun p hp => by cases hp
  | succ f ih =>
    intro p hp
    by_cases hu : u < x
    · rw [plS_step x z u hz hu] at hp
      rcases List.mem_cons.1 hp with rfl | hp
      · exact ⟨Nat.le_refl _, hu⟩
      · have := ih (u + z) (by omega) p hp
        omega
    · rw [plS_done x z u hu] at hp
      cases hp
theorem plS_length {x z : Nat} (hz : 0 < z) (f u : Nat) (hf : x - u ≤ f) : (plS x z u).length ≤ x - u := by
  induction f generalizing u with
  | zero => rw [plS_done x z u (by omega)]; exact Nat.zero_le _
  | succ f ih =>
    by_cases hu : u < x
    · rw [plS_step x z u hz hu, List.length_cons]
      have := ih (u + z) (by omega)
      omega
    · rw [plS_done x z u hu]
      exact Nat.zero_le _
set_option maxHeartbeats 2000000 in
set_option maxRecDepth 100000 in
theorem names_any (w0 : World) (b : Nat) (g : Gh) (st : St) (m : RowM) (x z u : Nat) (w : World) (h : RowG w0 w b g st m) (hx : m.next = (x : Int)) (hz : m.size = (z : Int)) (hx1 : x ≤ 100000000) (hz1 : 16 ≤ z) (hz2 : z ≤ 4096) (hh : m.head.size ≤ 1048576) (hu : u ≤ 1099511627776) :
    Calls Tryz.prog 78 #[.pointer (some ⟨b, 0, none⟩), .int .i64 u] w fun e w' => ∃ v, e = .returned v ∧ Strs w' w.heap.size v ((plS x z u).map (nameB m.head)) ∧ Below w.heap.size w w' := by
  have hNm : ∀ W (p : Nat), Chg (fun _ => False) w W → p < x → Calls Tryz.prog 77 #[.pointer (some ⟨b, 0, none⟩), .int .i64 p] W fun e w' => e = .returned (.string (nameB m.head p)) ∧ Below W.heap.size W w' := fun W p hc hp =>
    rname_any b g.d m W (h.new hc).row (h.new hc).tab p (by omega) (by omega)
  have HNM := Lib.hid hNm
  have H := Lib.hid h
  have hln := plS_length (x := x) (z := z) (by omega) x u (by omega)
  obtain ⟨tot, htot⟩ : ∃ tot, tot = (plS x z u).map (nameB m.head) := ⟨_, rfl⟩
  have hln2 : tot.length ≤ 100000000 := by rw [htot, List.length_map]; omega
  rw [← htot]
  have HT := Lib.hid htot
  have HX := Lib.hid (And.intro hx hz)
  obtain ⟨i0, hi, hz0, hz1', hz2'⟩ := info_parts info_str
  clear hNm h htot hln hx hz
  go_enter Tryz.func78, Tryz.ntmps78
  go_wp2_with fail
  go_loopw [5, 6] (fun r i wr => ∃ (p : Nat) (acc : List ByteArray) (v : Value), v = r ∧ i = .int .i64 p ∧ p ≤ 1099511627776 ∧ tot = acc ++ (plS x z p).map (nameB m.head) ∧ Below w.heap.size w wr ∧ wr.ownsRow w.heap.size 9 1 v acc.length (acc.map Value.string)) (fun _ i _ => x - (intOf i).toNat)
  case atStart => exact ⟨u, [], _, rfl, rfl, hu, HT.out, Below.refl _ _, World.ownsRow_nil _ _ _ _⟩
  case round =>
    obtain ⟨p, acc, v, rfl, rfl, hp, htot, hb, hown⟩ := hrel
    have hg := H.out.new (Chg.of_below (S := fun _ => False) hb)
    obtain ⟨c0, c1, c2, c3, c4, c5, c6, c7, hfz⟩ := hg.row.cell
    rw [HX.out.1] at c5
    rw [HX.out.2] at c2
    clear hfz c0 c1 c3 c4 c6 c7
    by_cases hlt : p < x
    · have hpl : tot = (acc ++ [nameB m.head p]) ++ (plS x z (p + z)).map (nameB m.head) := by
        rw [htot, plS_step x z p (by omega) hlt, List.map_cons, List.append_assoc]
        rfl
      have hal : acc.length < tot.length := by rw [hpl]; simp
      have HPL := Lib.hid hpl
      have HB := Lib.hid hb
      have HOWN := Lib.hid hown
      have hNM := HNM.out wr p (Chg.of_below hb) hlt
      have hw1 : IntKind.i64.wrap ((p : Int) + z) = p + z := IntWalk.i64_in _ (by omega)
      have HNM1 := Lib.hid hNM
      clear hpl hb hown hNM htot hg
      have HG := Lib.hid (H.out.new (Chg.of_below (S := fun _ => False) HB.out))
      go_wp2_with (first
        | (go_at_call 77; refine HNM1.out.mono ?_; rintro e w6 ⟨rfl, hb6⟩; have ho6 := (Chg.of_below (S := fun _ => False) hb6).row HOWN.out (fun _ _ x => x))
        | (at_builtin; refine wpList_append_own _ rfl (.tmp 20) (.tmp 24) 44 rfl w.heap.size 9 i0 (.string ⟨#[]⟩) 1 16 Tryz.underlying44 hi hz0 hz1' hz2' rfl (by decide) v acc.length (acc.map Value.string) rfl (ho6.alloc _) ⟨w6.heap.size, 0, none⟩ 1 1 [.string (nameB m.head p)] rfl rfl ?c1 ?c2 ?c3 ?c4 ?c5 ?c6))
      case c1 => exact cell_one_new _ _ _
      case c2 => intro u hu; simp at hu; rw [hu]; rfl
      case c3 => unfold maxLen; omega
      case c4 => omega
      case c5 => simp; have := HB.out.size; have := hb6.size; omega
      case c6 =>
        intro v' w9 hown9 hgrow9 _
        have hb7 : Below w.heap.size w (w6.alloc (.cells #[.string (nameB m.head p)] 9)) := by
          have h1 := HB.out.trans (hb6.mono HB.out.size)
          exact h1.alloc h1.size _
        have hb9 : Below w.heap.size w w9 := by
          refine hb7.grown hgrow9 hb7.size (fun q hq => ?_)
          have := (ho6.lt q hq).1
          omega
        have hg9 := H.out.new (Chg.of_below (S := fun _ => False) hb9)
        have d2 := hg9.row.cell.2.2.1
        rw [HX.out.2] at d2
        have HB9 := Lib.hid hb9
        have HO9 := Lib.hid hown9
        clear hb6 ho6 hb7 hb9 hg9 hown9 hgrow9 c2 c5
        go_wp2_with fail
        refine ⟨⟨p + z, acc ++ [nameB m.head p], v', rfl, by go_num, by omega, HPL.out, HB9.out, ?_⟩, by simp [intOf]; omega⟩
        simp only [List.length_append, List.map_append, List.map_cons, List.map_nil, List.length_cons, List.length_nil]
        exact HO9.out
    · have htl : tot = acc := by rw [htot, plS_done x z p hlt]; simp
      have HTL := Lib.hid htl
      have HB := Lib.hid hb
      have HOWN := Lib.hid hown
      clear htl hb hown htot hg
      go_wp2_with fail
      go_ret
      exact ⟨_, rfl, by rw [HTL.out]; exact strs_of_own HOWN.out, HB.out⟩
theorem Calm.syncE {n : Nat} {st : St} (h : Calm n st) {ts : List ByteArray} (ht : ∀ t ∈ ts, (st.find t).isSome = true) : Go.Proofs.YtdnhgodfmjapmaaGreatDoor.syncE st ts = 0 := h.deleteE ht
theorem Calm.syncS {n : Nat} {st : St} (h : Calm n st) {ts : List ByteArray} (ht : ∀ t ∈ ts, (st.find t).isSome = true) : Go.Proofs.YtdnhgodfmjapmaaGreatDoor.syncS st ts = syncAll st ts := by
  unfold Go.Proofs.YtdnhgodfmjapmaaGreatDoor.syncS
  rw [if_pos (h.readyE ht), if_pos h.burnE, h.burnS]
theorem sync1_keeps (st : St) (t : ByteArray) : (sync1 st t).lit = st.lit ∧ (sync1 st t).down = st.down ∧ (sync1 st t).cap = st.cap ∧ (sync1 st t).size = st.size := by
  unfold sync1
  split <;> exact ⟨rfl, rfl, rfl, rfl⟩
theorem syncAll_keeps (st : St) (ts : List ByteArray) : (syncAll st ts).lit = st.lit ∧ (syncAll st ts).down = st.down ∧ (syncAll st ts).cap = st.cap ∧ (syncAll st ts).size = st.size := by
  unfold syncAll
  induction ts generalizing st with
  | nil => exact ⟨rfl, rfl, rfl, rfl⟩
  | cons t ts ih =>
    have h1 := ih (sync1 st t)
    have h2 := sync1_keeps st t
    exact ⟨h1.1.trans h2.1, h1.2.1.trans h2.2.1, h1.2.2.1.trans h2.2.2.1, h1.2.2.2.trans h2.2.2.2⟩
theorem Calm.sync {n : Nat} {st : St} (h : Calm n st) (ts : List ByteArray) : Calm n (syncAll st ts) :=
  ⟨h.good.syncAll ts, (syncAll_keeps st ts).1.trans h.lit, (syncAll_keeps st ts).2.1.trans h.down⟩
theorem out_new {w w' : World} {g : Gh} {st : St} {B : Nat} {v : Value} {ts : List ByteArray} (hd : DiskAt w g st) (hs : Strs w' B v ts) (hB : w.heap.size ≤ B) : Out g v := fun q o len cap hv h0 hx => by
  obtain ⟨a, c, e, h⟩ := hs
  rw [e] at hv
  cases hv
  rcases h with h | ⟨q', o', hq, hb, _⟩
  · rw [h] at h0; exact absurd h0 (by simp)
  · cases hq
    have h1 := hd.lt _ hx
    omega
def syncedM (m : RowM) : RowM := { m with synced := m.end_, touched := m.next }
def rowNames (m : RowM) (u : Nat) : List ByteArray := (plS m.next.toNat m.size.toNat u).map (nameB m.head)
set_option maxHeartbeats 2000000 in
set_option maxRecDepth 100000 in
theorem rsync_any (w0 : World) (b : Nat) (g : Gh) (st : St) (m : RowM) (n : Nat) (w : World) (h : RowG w0 w b g st m) (hk : Calm n st) (hn : n ≤ 1048576) (hx0 : 0 ≤ m.next) (hx1 : m.next ≤ 100000000) (hz1 : 16 ≤ m.size) (hz2 : m.size ≤ 4096) (hh : m.head.size ≤ 1048576)
    (ht0 : 0 ≤ m.touched) (ht1 : m.touched ≤ 1099511627776) (hfound : ∀ t ∈ rowNames m m.touched.toNat, (st.find t).isSome = true) :
    Calls Tryz.prog 39 #[.pointer (some ⟨b, 0, none⟩)] w fun e w' => e = .returned (.int .i64 0) ∧ ∃ g', RowG w0 w' b g' (syncAll st (rowNames m m.touched.toNat)) (syncedM m) ∧ RowTo w b g g' w' := by
  have hNm := names_any w0 b g st m m.next.toNat m.size.toNat m.touched.toNat w h (by omega) (by omega) (by omega) (by omega) (by omega) hh (by omega)
  rw [show ((m.touched.toNat : Nat) : Int) = m.touched by omega] at hNm
  have hsz : ∀ t ∈ rowNames m m.touched.toNat, t.size ≤ maxLen := fun t ht => by
    obtain ⟨p, _, rfl⟩ := List.mem_map.1 ht
    rw [nameB_size]
    unfold maxLen
    omega
  have hlen : (rowNames m m.touched.toNat).length ≤ 100000000 := by
    unfold rowNames
    rw [List.length_map]
    have := plS_length (x := m.next.toNat) (z := m.size.toNat) (by omega) m.next.toNat m.touched.toNat (by omega)
    omega
  rw [show (plS m.next.toNat m.size.toNat m.touched.toNat).map (nameB m.head) = rowNames m m.touched.toNat from rfl] at hNm
  obtain ⟨rs, hrs⟩ : ∃ rs, rs = rowNames m m.touched.toNat := ⟨_, rfl⟩
  rw [← hrs] at hNm hsz hlen hfound ⊢
  have hSY : ∀ W v, RowG w0 W b g st m → Strs W w.heap.size v rs → Calls Tryz.prog 79 #[.pointer (some ⟨g.d, 0, none⟩), v] W (OpTo g 0 (syncAll st rs) W) := fun W v hW hsv => by
    have := syncd_any g st v rs W hW.disk (strs_up hsv (Nat.zero_le _)) (out_new h.disk hsv (Nat.le_refl _)) hsz (by omega) hk.good.fuse (hk.good.allIn (by omega))
    rwa [hk.syncE hfound, hk.syncS hfound] at this
  obtain ⟨c0, c1, c2, c3, c4, c5, c6, c7, hfz⟩ := h.row.cell
  obtain ⟨n', hn'⟩ : ∃ n', n' = rs.length := ⟨_, rfl⟩
  rw [← hn'] at hlen
  have HNM := Lib.hid hNm
  have HSY := Lib.hid hSY
  have HN := Lib.hid hn'
  have H := Lib.hid h
  clear hNm hSY hn' hrs hsz hfound h hfz c0 c1 c2 c3 c4 c5 c6 hk
  go_enter Tryz.func39, Tryz.ntmps39
  go_wp2_with (go_at_call 78; refine HNM.out.mono ?_)
  rintro e w2 ⟨rv, rfl, hsv, hb2⟩
  obtain ⟨ra, rc, hrv⟩ := hsv.form
  rw [← HN.out] at hrv
  subst hrv
  have hg2 := H.out.new (Chg.of_below (S := fun _ => False) hb2)
  have k0 := hg2.row.cell.1
  have HG2 := Lib.hid hg2
  have HSV := Lib.hid hsv
  have HB2 := Lib.hid hb2
  clear hg2 hsv hb2 c7
  by_cases hr0 : n' = 0
  case' pos =>
    subst hr0
    go_wp2_with fail
    generalize hw3 : w2 = w3
    obtain ⟨g3, hg3⟩ : ∃ g3, g3 = g := ⟨_, rfl⟩
    have h3 : RowG w0 w3 b g3 (syncAll st rs) m ∧ RowTo w b g g3 w3 := by
      have e := List.length_eq_zero_iff.1 HN.out.symm
      rw [hg3, e, ← hw3]
      exact ⟨HG2.out, RowTo.new b g (Chg.of_below HB2.out)⟩
    clear hw3 hg3
  case' neg =>
    have hpos : 0 < n' := by omega
    go_wp2_with (go_at_call 79; refine (HSY.out _ _ HG2.out HSV.out).mono ?_; rintro e w3 ⟨rfl, g3, hd3, ht3⟩)
    have h3 : RowG w0 w3 b g3 (syncAll st rs) m ∧ RowTo w b g g3 w3 := by
      have h4 := HG2.out.op hd3 ht3
      exact ⟨h4.1, (RowTo.new b g (Chg.of_below HB2.out)).trans h4.2⟩
    clear hd3 ht3
  all_goals
    obtain ⟨c0, c1, c2, c3, c4, c5, c6, c7, hz⟩ := h3.1.row.cell
    have z6 := hz 6
    have z7 := hz 7
    have H3 := Lib.hid h3
    clear h3 hz c0 c1 c2 c3 k0
    go_region
    go_wp2_with fail
    go_ret
    have h4 := H3.out.1.set 6 (.int .i64 m.end_) { m with synced := m.end_ } rfl
    have h5 := h4.1.set 7 (.int .i64 m.next) (syncedM m) rfl
    refine ⟨rfl, g3, ?_, ?_⟩
    · first | exact h5.1 | exact h5.1.drew | exact h5.1.drewN _
    · have h6 := H3.out.2.trans (h4.2.trans h5.2)
      first | exact h6 | exact ⟨h6.chg.drew, h6.fp, h6.d⟩
end Go.Proofs.YtdnhgodfmjapmaaGreatDoor
namespace Go.Proofs.YtdnhgodfmjapmaaGreatDoor
open Go.RowKit Go.Deep
attribute [local go_sem] fr_opt
set_option maxRecDepth 100000 in
theorem rbegin_any (b d : Nat) (m : RowM) (w : World) (h : RowAt w b d m) : Calls Tryz.prog 58 #[.pointer (some ⟨b, 0, none⟩)] w fun e w' => e = .returned (.int .i64 m.begin_) ∧ w = w' := by
  obtain ⟨c0, c1, c2, c3, c4, c5, c6, c7, hz⟩ := h.cell
  clear h hz
  go_enter Tryz.func58, Tryz.ntmps58
  go_wp2_with fail
  go_ret
  exact ⟨rfl, rfl⟩
set_option maxRecDepth 100000 in
theorem rend_any (b d : Nat) (m : RowM) (w : World) (h : RowAt w b d m) : Calls Tryz.prog 85 #[.pointer (some ⟨b, 0, none⟩)] w fun e w' => e = .returned (.int .i64 m.end_) ∧ w = w' := by
  obtain ⟨c0, c1, c2, c3, c4, c5, c6, c7, hz⟩ := h.cell
  clear h hz
  go_enter Tryz.func85, Tryz.ntmps85
  go_wp2_with fail
  go_ret
  exact ⟨rfl, rfl⟩
set_option maxRecDepth 100000 in
theorem rsynced_any (b d : Nat) (m : RowM) (w : World) (h : RowAt w b d m) : Calls Tryz.prog 60 #[.pointer (some ⟨b, 0, none⟩)] w fun e w' => e = .returned (.int .i64 m.synced) ∧ w = w' := by
  obtain ⟨c0, c1, c2, c3, c4, c5, c6, c7, hz⟩ := h.cell
  clear h hz
  go_enter Tryz.func60, Tryz.ntmps60
  go_wp2_with fail
  go_ret
  exact ⟨rfl, rfl⟩
set_option maxRecDepth 100000 in
theorem rplace_any (b d : Nat) (m : RowM) (a : Int) (w : World) (h : RowAt w b d m) (h0 : 0 ≤ a) (h1 : a ≤ 1099511627776) (hs1 : 16 ≤ m.size) (hs2 : m.size ≤ 4096) :
    Calls Tryz.prog 89 #[.pointer (some ⟨b, 0, none⟩), .int .i64 a] w fun e w' => e = .returned (.int .i64 (a - a % m.size)) ∧ w = w' := by
  obtain ⟨c0, c1, c2, c3, c4, c5, c6, c7, hz⟩ := h.cell
  obtain ⟨head, size, begin_, end_, next, synced, touched⟩ := m
  simp only at *
  have hne : ¬ size = 0 := by omega
  have hneb : (size == 0) = false := by simpa using hne
  have hm0 : 0 ≤ a % size := Int.emod_nonneg _ hne
  have hm1 : a % size < size := Int.emod_lt_of_pos _ (by omega)
  have hw : IntKind.i64.wrap (a - a % size) = a - a % size := IntWalk.i64_in _ (by omega)
  have ht : Int.tmod a size = a % size := Int.tmod_eq_emod_of_nonneg h0
  clear h hz
  go_enter Tryz.func89, Tryz.ntmps89
  go_wp2_with fail
  go_ret
  exact ⟨rfl, rfl⟩
def leftR (m : RowM) (a : Int) : Int := if a < m.begin_ ∨ m.end_ ≤ a then 0 else min (a - a % m.size + m.size) m.end_ - a
set_option maxRecDepth 100000 in
theorem rleft_any (b d : Nat) (m : RowM) (a : Int) (w : World) (h : RowAt w b d m) (hb0 : 0 ≤ m.begin_) (he : m.end_ ≤ 1099511627776) (hs1 : 16 ≤ m.size) (hs2 : m.size ≤ 4096) :
    Calls Tryz.prog 88 #[.pointer (some ⟨b, 0, none⟩), .int .i64 a] w fun e w' => e = .returned (.int .i64 (leftR m a)) ∧ ∃ q, w' = w.drewN q := by
  obtain ⟨c0, c1, c2, c3, c4, c5, c6, c7, hz⟩ := h.cell
  by_cases h1 : a < m.begin_
  · unfold leftR
    rw [if_pos (.inl h1)]
    clear h hz
    go_enter Tryz.func88, Tryz.ntmps88
    go_wp2_with fail
    go_ret
    exact ⟨rfl, 0, rfl⟩
  · by_cases h2 : m.end_ ≤ a
    · unfold leftR
      rw [if_pos (.inr h2)]
      clear h hz
      go_enter Tryz.func88, Tryz.ntmps88
      go_wp2_with fail
      go_ret
      exact ⟨rfl, 0, rfl⟩
    · have hP : ∀ q, Calls Tryz.prog 89 #[.pointer (some ⟨b, 0, none⟩), .int .i64 a] (w.drewN q) fun e w' => e = .returned (.int .i64 (a - a % m.size)) ∧ w.drewN q = w' := fun q =>
        rplace_any b d m a (w.drewN q) h (by omega) (by omega) hs1 hs2
      have hL : leftR m a = min (a - a % m.size + m.size) m.end_ - a := by unfold leftR; rw [if_neg (by omega)]
      rw [hL]
      obtain ⟨head, size, begin_, end_, next, synced, touched⟩ := m
      simp only at *
      have hne : ¬ size = 0 := by omega
      have hm0 : 0 ≤ a % size := Int.emod_nonneg _ hne
      have hm1 : a % size < size := Int.emod_lt_of_pos _ (by omega)
      obtain ⟨p, hp⟩ : ∃ p, p = a - a % size := ⟨_, rfl⟩
      have hp1 : p ≤ a := by omega
      have hp2 : a < p + size := by omega
      rw [← hp] at hP ⊢
      have hw1 : IntKind.i64.wrap (p + size) = p + size := IntWalk.i64_in _ (by omega)
      have hw2 : IntKind.i64.wrap (min (p + size) end_ - a) = min (p + size) end_ - a := IntWalk.i64_in _ (by omega)
      have HP := Lib.hid hP
      clear h hz hL hp hm0 hm1 hP
      go_enter Tryz.func88, Tryz.ntmps88
      go_wp2_with fail
      go_quiet ((go_at_call 89; exact Calls.quiet_of ((HP.out _).mono fun _ _ hh => ⟨hh.1, 0, hh.2.symm⟩)))
      go_wp2_with fail
      go_ret
      exact ⟨rfl, _, rfl⟩
end Go.Proofs.YtdnhgodfmjapmaaGreatDoor
namespace Go.Proofs.YtdnhgodfmjapmaaGreatDoor
open Go.RowKit Go.Deep
attribute [local go_sem] fr_opt
theorem part_text {w : World} {B cap : Nat} {cur : Array Value} {xs : List UInt8} {a k : Nat} (hg : w.heap[B]? = some (.cells cur 5 (0, 0))) (h4 : cur.toList.take xs.length = xs.map by8) (hk : a + k ≤ xs.length) :
    (convert 183 9 (.slice (some ⟨B, a, none⟩) k cap)).run Tryz.prog w = .ok (.string ⟨((xs.drop a).take k).toArray⟩) w := by
  have hl : ((xs.drop a).take k).length = k := by rw [List.length_take, List.length_drop]; omega
  have := run_convert_bytes_back (P := Tryz.prog) w 183 9 5 ⟨B, a, none⟩ cap ((xs.drop a).take k) Tryz.underlying183 Tryz.underlying5 Tryz.underlying9 (fun j hj => by
    rw [hl] at hj
    rw [add_none]
    have e1 : (cur.toList.take xs.length)[a + j]? = (xs.map by8)[a + j]? := by rw [h4]
    rw [List.getElem?_take, if_pos (by omega), Array.getElem?_toList, List.getElem?_map, List.getElem?_eq_getElem (by omega)] at e1
    simp [World.cell?, hg, e1, by8])
  rw [hl] at this
  exact this
set_option maxRecDepth 100000 in
theorem dread_ok (g : Gh) (st : St) (nm : ByteArray) (f : FileM) (a k : Nat) (w : World) (h : DiskAt w g st) (hm : nm.size ≤ maxLen) (hq : st.down = false) (hf : st.find nm = some f) (hk : 0 < k) (ha : a + k ≤ f.bytes.length) (hl : f.bytes.length ≤ 1099511627776) :
    Calls Tryz.prog 90 #[.pointer (some ⟨g.d, 0, none⟩), .string nm, .int .i64 a, .int .i64 k] w fun e w' => e = .returned (.tuple #[.string ⟨((f.bytes.drop a).take k).toArray⟩, .int .i64 0]) ∧ Below w.heap.size w w' := by
  have hf' := h.find nm
  rw [hf] at hf'
  obtain ⟨e0, hg, rfl⟩ : ∃ e0, getE g.es nm = some e0 ∧ e0.f = f := by
    cases hx : getE g.es nm with
    | none => rw [hx] at hf'; cases hf'
    | some e0 => rw [hx] at hf'; exact ⟨e0, rfl, Option.some.inj hf'⟩
  have HC := Lib.hid (find_ok g st nm w h hm hq e0 hg)
  have HE := Lib.hid (h.ents e0 (getE_mem hg).1)
  have hs : IntKind.i64.wrap ((e0.f.bytes.length : Int) - a) = (e0.f.bytes.length : Int) - a := IntWalk.i64_in _ (by omega)
  have hp : IntKind.i64.wrap ((a : Int) + k) = (a : Int) + k := IntWalk.i64_in _ (by omega)
  clear h hq hg hf hf'
  go_enter Tryz.func90, Tryz.ntmps90
  go_wp2_with (go_at_call 122; refine HC.out.mono ?_)
  rintro e w' ⟨rfl, hb⟩
  have hE : EntAt w' e0 := HE.out.chg (Chg.of_below (S := fun _ => False) hb) (fun _ _ x => x)
  have k1 := hE.cells.2.1
  rcases hE.bytes.form with ⟨_, h0⟩ | ⟨B, cap, cur, hv, hgB, hcap, hmax, hcs, htk⟩
  · rw [h0] at ha; simp at ha; omega
  · have hct : ∀ c, _ := fun c => part_text (cap := c) hgB htk ha
    rw [hv] at k1
    unfold pk
    clear hE hv hgB htk hcs
    go_wp2_with fail
    go_ret2
    exact ⟨rfl, hb⟩
set_option maxHeartbeats 1000000 in
set_option maxRecDepth 100000 in
theorem rread_ok (w0 : World) (b : Nat) (g : Gh) (st : St) (m : RowM) (a k u : Nat) (f : FileM) (w : World) (h : RowG w0 w b g st m) (hdn : st.down = false) (hb0 : 0 ≤ m.begin_) (he : m.end_ ≤ 100000000) (hs1 : 16 ≤ m.size) (hs2 : m.size ≤ 4096) (hh : m.head.size ≤ 1048576)
    (hk : 0 < k) (h1 : (k : Int) ≤ leftR m a) (hu : (u : Int) = (a : Int) - (a : Int) % m.size) (hf : st.find (nameB m.head u) = some f) (hfl : a - u + k ≤ f.bytes.length) (hfm : f.bytes.length ≤ 1099511627776) :
    Calls Tryz.prog 45 #[.pointer (some ⟨b, 0, none⟩), .int .i64 a, .int .i64 k] w fun e w' => e = .returned (.tuple #[.string ⟨((f.bytes.drop (a - u)).take k).toArray⟩, .int .i64 0]) ∧ Below w.heap.size w w' := by
  have hrange : m.begin_ ≤ a ∧ (a : Int) < m.end_ := by
    by_cases hx : (a : Int) < m.begin_ ∨ m.end_ ≤ (a : Int)
    · unfold leftR at h1
      rw [if_pos hx] at h1
      omega
    · omega
  have hL := rleft_any b g.d m a w h.row hb0 (by omega) hs1 hs2
  obtain ⟨l, hl⟩ : ∃ l, l = leftR m a := ⟨_, rfl⟩
  rw [← hl] at hL h1
  have hne : ¬ m.size = 0 := by omega
  have hm0 : 0 ≤ (a : Int) % m.size := Int.emod_nonneg _ hne
  have hm1 : (a : Int) % m.size < m.size := Int.emod_lt_of_pos _ (by omega)
  have hP : ∀ W, RowG w0 W b g st m → Calls Tryz.prog 89 #[.pointer (some ⟨b, 0, none⟩), .int .i64 a] W fun e w' => e = .returned (.int .i64 u) ∧ W = w' := fun W hW => by
    rw [hu]
    exact rplace_any b g.d m a W hW.row (by omega) (by omega) hs1 hs2
  have hN : ∀ W, RowG w0 W b g st m → Calls Tryz.prog 77 #[.pointer (some ⟨b, 0, none⟩), .int .i64 u] W fun e w' => e = .returned (.string (nameB m.head u)) ∧ Below W.heap.size W w' := fun W hW =>
    rname_any b g.d m W hW.row hW.tab u (by omega) (by omega)
  have hR : ∀ W, RowG w0 W b g st m → Calls Tryz.prog 90 #[.pointer (some ⟨g.d, 0, none⟩), .string (nameB m.head u), .int .i64 ((a : Int) - u), .int .i64 k] W fun e w' => e = .returned (.tuple #[.string ⟨((f.bytes.drop (a - u)).take k).toArray⟩, .int .i64 0]) ∧ Below W.heap.size W w' := fun W hW => by
    have := dread_ok g st (nameB m.head u) f (a - u) k W hW.disk (by rw [nameB_size]; unfold maxLen; omega) hdn hf hk hfl hfm
    rwa [show ((a - u : Nat) : Int) = (a : Int) - u by omega] at this
  obtain ⟨t, ht⟩ : ∃ t : ByteArray, t = ⟨((f.bytes.drop (a - u)).take k).toArray⟩ := ⟨_, rfl⟩
  rw [← ht] at hR ⊢
  have hw : IntKind.i64.wrap ((a : Int) - u) = (a : Int) - u := IntWalk.i64_in _ (by omega)
  have hk0 : ¬ (k : Int) ≤ 0 := by omega
  have hkb : ((k : Int) == 0) = false := by simp; omega
  have hlk : ¬ l < (k : Int) := by omega
  obtain ⟨c0, c1, c2, c3, c4, c5, c6, c7, hz⟩ := h.row.cell
  have H := Lib.hid h
  have HL := Lib.hid hL
  have HP := Lib.hid hP
  have HN := Lib.hid hN
  have HR := Lib.hid hR
  clear h hL hP hN hR hz c1 c2 c5 c6 c7 hf ht hu hl hm0 hm1 hfl hfm hdn
  go_enter Tryz.func45, Tryz.ntmps45
  go_wp2_with (go_at_call 88; refine HL.out.mono ?_; rintro e wx ⟨rfl, q, rfl⟩)
  go_wp2_with (go_at_call 89; refine (HP.out _ (H.out.drewN q)).mono ?_; rintro e wx ⟨rfl, rfl⟩)
  generalize hw1 : w.drewN q = w1
  have hg1 : RowG w0 w1 b g st m := hw1 ▸ H.out.drewN q
  have hb1 : Below w.heap.size w w1 := hw1 ▸ (⟨rfl, rfl, rfl, Nat.le_refl _, fun _ _ => rfl⟩ : Below w.heap.size w (w.drewN q))
  have k0 := hg1.row.cell.1
  have HG1 := Lib.hid hg1
  have HB1 := Lib.hid hb1
  clear hg1 hb1 hw1 c0 c3 c4
  go_region_held3 (fun w' => w'.cell? ⟨b, 0, none⟩ = some (.pointer (some ⟨g.d, 0, none⟩)))
    (first | exact k0 | go_keep)
    (first
      | (go_at_call 77
         ((with_reducible refine (HN.out _ ?_).mono ?_))
         · repeat (first | exact HG1.out | with_reducible refine RowG.drew ?_ | with_reducible refine RowG.drewN ?_ _)
         rintro e w8 ⟨rfl, hb8⟩
         have hg8 := HG1.out.drew.new (Chg.of_below (S := fun _ => False) hb8)
         have k0 := hg8.row.cell.1
         have HG8 := Lib.hid hg8
         have HB8 := Lib.hid hb8
         clear hb8 hg8)
      | (go_at_call 90
         ((with_reducible refine (HR.out _ ?_).mono ?_))
         · repeat (first | exact HG8.out | with_reducible refine RowG.drew ?_ | with_reducible refine RowG.drewN ?_ _)
         rintro e w9 ⟨rfl, hb9⟩
         have hg9 := HG8.out.new (Chg.of_below (S := fun _ => False) hb9)
         have k0 := hg9.row.cell.1
         have HB9 := Lib.hid hb9
         clear hb9 hg9))
  go_wp2_with fail
  go_ret2
  have d1 : Below w.heap.size w w1.drew := ⟨HB1.out.os, HB1.out.tape, HB1.out.output, HB1.out.size, HB1.out.block⟩
  have d8 := d1.trans (HB8.out.mono d1.size)
  exact ⟨rfl, d8.trans (HB9.out.mono d8.size)⟩
end Go.Proofs.YtdnhgodfmjapmaaGreatDoor
namespace Go.Proofs.YtdnhgodfmjapmaaGreatDoor
open Go.RowKit Go.Deep
def valA (acc : Nat) (l : List UInt8) : Nat := l.foldl (fun a b => a * 10 + (b.toNat - 48)) acc
theorem valA_lt : ∀ (l1 l2 : List UInt8), l1.length = l2.length → (∀ b ∈ l1, isDig b) → (∀ b ∈ l2, isDig b) → ∀ a1 a2, a2 < a1 → valA a2 l2 < valA a1 l1
  | [], [], _, _, _, a1, a2, h => h
  | x :: l1, y :: l2, hl, h1, h2, a1, a2, h => by
    have hx := h1 x (List.mem_cons_self ..)
    have hy := h2 y (List.mem_cons_self ..)
    have e1 : valA a2 (y :: l2) = valA (a2 * 10 + (y.toNat - 48)) l2 := rfl
    have e2 : valA a1 (x :: l1) = valA (a1 * 10 + (x.toNat - 48)) l1 := rfl
    rw [e1, e2]
    refine valA_lt l1 l2 (by simpa using hl) (fun b hb => h1 b (List.mem_cons_of_mem _ hb)) (fun b hb => h2 b (List.mem_cons_of_mem _ hb)) _ _ ?_
    unfold isDig at hx hy
    omega
theorem lex_val : ∀ (l1 l2 : List UInt8), l1.length = l2.length → (∀ b ∈ l1, isDig b) → (∀ b ∈ l2, isDig b) → ∀ a, valA a l1 ≤ valA a l2 → l1 ≤ l2
  | [], [], _, _, _, a, h => List.le_refl _
  | x :: l1, y :: l2, hl, h1, h2, a, h => by
    have hx := h1 x (List.mem_cons_self ..)
    have hy := h2 y (List.mem_cons_self ..)
    have h1' : ∀ b ∈ l1, isDig b := fun b hb => h1 b (List.mem_cons_of_mem _ hb)
    have h2' : ∀ b ∈ l2, isDig b := fun b hb => h2 b (List.mem_cons_of_mem _ hb)
    have hl' : l1.length = l2.length := by simpa using hl
    rw [List.cons_le_cons_iff]
    by_cases hlt : x < y
    · exact .inl hlt
    · by_cases he : x = y
      · subst he
        exact .inr ⟨rfl, lex_val l1 l2 hl' h1' h2' _ h⟩
      · exfalso
        have h3 : y.toNat < x.toNat := by
          have h4 : ¬ x.toNat < y.toNat := fun h => hlt (UInt8.lt_iff_toNat_lt.2 h)
          have h5 : x.toNat ≠ y.toNat := fun h => he (UInt8.toNat_inj.1 h)
          omega
        have h6 : valA (a * 10 + (y.toNat - 48)) l2 < valA (a * 10 + (x.toNat - 48)) l1 := by
          refine valA_lt l1 l2 hl' h1' h2' _ _ ?_
          unfold isDig at hx hy
          omega
        have h7 : valA (a * 10 + (x.toNat - 48)) l1 ≤ valA (a * 10 + (y.toNat - 48)) l2 := h
        omega
theorem nameB_le (head : ByteArray) {u v : Nat} (hu : u ≤ 99999999) (hv : v ≤ 99999999) (h : u ≤ v) : (nameB head u).data.toList ≤ (nameB head v).data.toList := by
  rw [nameB_toList, nameB_toList]
  refine List.append_left_le (lex_val _ _ (by rw [dec8_length, dec8_length]) (dec8_dig u) (dec8_dig v) 0 ?_)
  have e : ∀ l, valA 0 l = val8 l := fun _ => rfl
  rw [e, e, val8_dec8 u (by omega), val8_dec8 v (by omega)]
  exact h
theorem nameB_inj (head : ByteArray) {u v : Nat} (hu : u ≤ 99999999) (hv : v ≤ 99999999) (h : nameB head u = nameB head v) : u = v := by
  have h1 := place_name head u hu
  rw [h, place_name head v hv] at h1
  exact (Option.some.inj h1).symm
theorem nameB_pre (head : ByteArray) (u : Nat) : Lib.hasPrefix (nameB head u).data.toList head.data.toList = true := by
  rw [nameB_toList]
  simp [Lib.hasPrefix]
def filesF (head : ByteArray) : Nat → List FileM → List (ByteArray × FileM)
  | _, [] => []
  | i, f :: fl => (nameB head (16 * i), f) :: filesF head (i + 1) fl
theorem filesF_append (head : ByteArray) (l2 : List FileM) : ∀ (l1 : List FileM) (i : Nat), filesF head i (l1 ++ l2) = filesF head i l1 ++ filesF head (i + l1.length) l2
  | [], i => rfl
  | f :: l1, i => by
    show (nameB head (16 * i), f) :: filesF head (i + 1) (l1 ++ l2) = (nameB head (16 * i), f) :: (filesF head (i + 1) l1 ++ _)
    rw [filesF_append head l2 l1 (i + 1), List.length_cons, show i + 1 + l1.length = i + (l1.length + 1) by omega]
theorem filesF_length (head : ByteArray) : ∀ (l : List FileM) (i : Nat), (filesF head i l).length = l.length
  | [], _ => rfl
  | f :: l, i => by
    show (filesF head (i + 1) l).length + 1 = _
    rw [filesF_length head l, List.length_cons]
theorem filesF_mem (head : ByteArray) : ∀ (l : List FileM) (i : Nat) (p : ByteArray × FileM), p ∈ filesF head i l → ∃ j f, i ≤ j ∧ j < i + l.length ∧ l[j - i]? = some f ∧ p = (nameB head (16 * j), f)
  | f :: l, i, p, hp => by
    rcases List.mem_cons.1 (show p ∈ (nameB head (16 * i), f) :: filesF head (i + 1) l from hp) with rfl | hp
    · exact ⟨i, f, Nat.le_refl _, by rw [List.length_cons]; omega, by simp, rfl⟩
    · obtain ⟨j, f', h1, h2, h3, h4⟩ := filesF_mem head l (i + 1) p hp
      refine ⟨j, f', by omega, by rw [List.length_cons]; omega, ?_, h4⟩
      rw [show j - i = (j - (i + 1)) + 1 by omega, List.getElem?_cons_succ]
      exact h3
theorem filesF_find (head : ByteArray) : ∀ (l : List FileM) (i j : Nat) (f : FileM), 16 * (i + l.length) ≤ 100000000 → l[j]? = some f → ((filesF head i l).find? fun p => decide (p.1 = nameB head (16 * (i + j)))).map (·.2) = some f
  | f0 :: l, i, 0, f, _, h => by
    show (((nameB head (16 * i), f0) :: filesF head (i + 1) l).find? _).map _ = _
    rw [List.find?_cons_of_pos (by simp)]
    simpa using h
  | f0 :: l, i, j + 1, f, hb, h => by
    show (((nameB head (16 * i), f0) :: filesF head (i + 1) l).find? _).map _ = _
    rw [List.length_cons] at hb
    have hj := (List.getElem?_eq_some_iff.1 h).1
    rw [List.length_cons] at hj
    rw [List.find?_cons_of_neg (by
      simp only [decide_eq_true_eq]
      intro hx
      have := nameB_inj head (by omega) (by omega) hx
      omega)]
    rw [show i + (j + 1) = (i + 1) + j by omega]
    exact filesF_find head l (i + 1) j f (by omega) (by simpa using h)
theorem filesF_none (head : ByteArray) (l : List FileM) (i k : Nat) (hb : 16 * (i + l.length) ≤ 100000000) (hk : 16 * k ≤ 99999999) (h : i + l.length ≤ k) : ((filesF head i l).find? fun p => decide (p.1 = nameB head (16 * k))).map (·.2) = none := by
  rw [Option.map_eq_none_iff, List.find?_eq_none]
  intro p hp hx
  obtain ⟨j, f, h1, h2, h3, rfl⟩ := filesF_mem head l i p hp
  simp only [decide_eq_true_eq] at hx
  have := nameB_inj head (by omega) (by omega) hx
  omega
theorem names_files (head : ByteArray) (st : St) (l : List FileM) (h : st.fs = filesF head 0 l) (hb : 16 * l.length ≤ 100000000) : namesS head st = (filesF head 0 l).map (·.1) := by
  unfold namesS
  rw [h]
  have h1 : (filesF head 0 l).filter (fun p => Lib.hasPrefix p.1.data.toList head.data.toList) = filesF head 0 l := by
    rw [List.filter_eq_self]
    intro p hp
    obtain ⟨j, f, _, _, _, rfl⟩ := filesF_mem head l 0 p hp
    exact nameB_pre head _
  rw [h1]
  have hs : ∀ (l : List FileM) (i : Nat), 16 * (i + l.length) ≤ 100000000 → ((filesF head i l).map fun p => p.1.data.toList).Pairwise fun x y => decide (x ≤ y) = true := by
    intro l
    induction l with
    | nil => exact fun _ _ => List.Pairwise.nil
    | cons f l ih =>
      intro i hb
      rw [List.length_cons] at hb
      show (((nameB head (16 * i), f) :: filesF head (i + 1) l).map fun p => p.1.data.toList).Pairwise _
      rw [List.map_cons, List.pairwise_cons]
      refine ⟨fun y hy => ?_, ih (i + 1) (by omega)⟩
      obtain ⟨p, hp, rfl⟩ := List.mem_map.1 hy
      obtain ⟨j, f', h1, h2, _, rfl⟩ := filesF_mem head l (i + 1) p hp
      exact decide_eq_true (nameB_le head (by omega) (by omega) (by omega))
  rw [List.mergeSort_of_pairwise (hs l 0 (by omega)), List.map_map]
  exact List.map_congr_left fun p _ => by simp
def openL (head : ByteArray) : Nat → List FileM → Nat × Nat × List ByteArray
  | i, [] => (16 * i, 16 * i, [])
  | i, f :: fl => if f.bytes.length = 16 then openL head (i + 1) fl else (16 * i + f.bytes.length, 16 * i + 16, (filesF head (i + 1) fl).map (·.1))
def rowS (head : ByteArray) (e x : Nat) : RowM := ⟨head, 16, 0, e, x, 0, 0⟩
theorem gathF_at (st : St) (x : RowM × Bool × List ByteArray) (u : Nat) (hu : u ≤ 99999999) (head : ByteArray) (hh : x.1.head = head) :
    gathF st x (nameB head u) = ((takeR x.1 x.2.1 u (st.len (nameB head u))).1, (takeR x.1 x.2.1 u (st.len (nameB head u))).2.1, if (takeR x.1 x.2.1 u (st.len (nameB head u))).2.2 = true then x.2.2 else x.2.2 ++ [nameB head u]) := by
  unfold gathF
  rw [hh, place_name head u hu]
theorem gath_rej (st : St) (head : ByteArray) : ∀ (l : List FileM) (i : Nat) (m : RowM) (rs : List ByteArray), m.head = head → m.end_ < 16 * (i : Int) → 16 * (i + l.length) ≤ 100000000 →
    ((filesF head i l).map (·.1)).foldl (gathF st) (m, false, rs) = (m, false, rs ++ (filesF head i l).map (·.1))
  | [], i, m, rs, _, _, _ => by simp [filesF]
  | f :: l, i, m, rs, h1, h2, h3 => by
    rw [List.length_cons] at h3
    show ((nameB head (16 * i)) :: (filesF head (i + 1) l).map (·.1)).foldl (gathF st) (m, false, rs) = (m, false, rs ++ (nameB head (16 * i)) :: (filesF head (i + 1) l).map (·.1))
    rw [List.foldl_cons, gathF_at st (m, false, rs) (16 * i) (by omega) head h1]
    have ht : takeR m false (16 * i) (st.len (nameB head (16 * i))) = (m, false, false) := by
      unfold takeR
      split
      · rfl
      · rw [if_neg (by simp), if_pos (by omega)]
    simp only [ht]
    rw [if_neg (by simp), gath_rej st head l (i + 1) m _ h1 (by omega) (by omega), List.append_assoc]
    rfl
theorem gath_row (st : St) (head : ByteArray) : ∀ (l : List FileM) (i : Nat) (fst : Bool), (fst = true → i = 0) → (∀ j f, l[j]? = some f → st.len (nameB head (16 * (i + j))) = f.bytes.length ∧ f.bytes.length ≤ 16) → 16 * (i + l.length) ≤ 100000000 →
    ∃ f', ((filesF head i l).map (·.1)).foldl (gathF st) (rowS head (16 * i) (16 * i), fst, []) = (rowS head (openL head i l).1 (openL head i l).2.1, f', (openL head i l).2.2)
  | [], i, fst, _, _, _ => ⟨fst, rfl⟩
  | f :: l, i, fst, h1, h2, h3 => by
    rw [List.length_cons] at h3
    obtain ⟨e1, e2⟩ := h2 0 f (by simp)
    rw [Nat.add_zero] at e1
    have ht : takeR (rowS head (16 * i) (16 * i)) fst (16 * i) (st.len (nameB head (16 * i))) = (rowS head (16 * i + f.bytes.length) (16 * i + 16), false, true) := by
      rw [e1]
      unfold takeR rowS
      simp only
      rw [if_neg (by omega)]
      cases fst with
      | true =>
        obtain rfl := h1 rfl
        rw [if_pos rfl]
        simp
      | false =>
        rw [if_neg (by simp), if_neg (by simp)]
        simp
    have hstep : ((filesF head i (f :: l)).map (·.1)).foldl (gathF st) (rowS head (16 * i) (16 * i), fst, []) = ((filesF head (i + 1) l).map (·.1)).foldl (gathF st) (rowS head (16 * i + f.bytes.length) (16 * i + 16), false, []) := by
      show ((nameB head (16 * i)) :: (filesF head (i + 1) l).map (·.1)).foldl (gathF st) _ = _
      rw [List.foldl_cons, gathF_at st _ (16 * i) (by omega) head rfl]
      simp only [ht]
      rfl
    rw [hstep]
    by_cases h16 : f.bytes.length = 16
    · have ho : openL head i (f :: l) = openL head (i + 1) l := if_pos h16
      rw [ho, h16, show 16 * i + 16 = 16 * (i + 1) by omega]
      exact gath_row st head l (i + 1) false (fun h => by cases h) (fun j f' hj => by
        have := h2 (j + 1) f' (by simpa using hj)
        rwa [show i + (j + 1) = i + 1 + j by omega] at this) (by omega)
    · have ho : openL head i (f :: l) = (16 * i + f.bytes.length, 16 * i + 16, (filesF head (i + 1) l).map (·.1)) := if_neg h16
      rw [ho]
      refine ⟨false, ?_⟩
      rw [gath_rej st head l (i + 1) _ [] rfl (by show ((16 * i + f.bytes.length : Nat) : Int) < _; omega) (by omega)]
      rfl
theorem open_files (head : ByteArray) (st : St) (l : List FileM) (h : st.fs = filesF head 0 l) (hl : ∀ f ∈ l, f.bytes.length ≤ 16) (hb : 16 * l.length ≤ 100000000) :
    openM st head 16 = rowS head (openL head 0 l).1 (openL head 0 l).2.1 ∧ openS st head 16 = deleteAll st (openL head 0 l).2.2 := by
  obtain ⟨f', hg⟩ := gath_row st head l 0 true (fun _ => rfl) (fun j f hj => by
    refine ⟨?_, hl f (List.mem_of_getElem? hj)⟩
    have := filesF_find head l 0 j f (by omega) hj
    rw [← h] at this
    unfold St.len St.find
    rw [this]) (by omega)
  have hx : openX st head 16 = (rowS head (openL head 0 l).1 (openL head 0 l).2.1, f', (openL head 0 l).2.2) := by
    unfold openX gathS
    rw [names_files head st l h hb]
    exact hg
  unfold openM openS
  rw [hx]
  exact ⟨rfl, rfl⟩
def Chunks : List FileM → List UInt8 → Prop
  | [], all => all = []
  | f :: fl, all => f.bytes = all.take 16 ∧ all ≠ [] ∧ Chunks fl (all.drop 16)
theorem Chunks.nil {l : List FileM} (h : Chunks l []) : l = [] := by
  cases l with
  | nil => rfl
  | cons f l => exact absurd rfl h.2.1
theorem chunks_len : ∀ (l : List FileM) (all : List UInt8), Chunks l all → all.length ≤ 16 * l.length ∧ (l ≠ [] → 16 * l.length < all.length + 16)
  | [], all, h => by
    have : all = [] := h
    rw [this]
    exact ⟨Nat.le_refl _, fun h => absurd rfl h⟩
  | f :: l, all, h => by
    obtain ⟨h1, h2, h3⟩ := h
    have := chunks_len l _ h3
    have hp := List.length_pos_iff.2 h2
    rw [List.length_drop] at this
    rw [List.length_cons]
    refine ⟨by omega, fun _ => ?_⟩
    by_cases hl : l = []
    · rw [hl, List.length_nil]; omega
    · have := this.2 hl
      have := List.length_pos_iff.2 hl
      omega
theorem chunks_open (head : ByteArray) : ∀ (l : List FileM) (i : Nat) (all : List UInt8), Chunks l all → openL head i l = (16 * i + all.length, 16 * (i + l.length), [])
  | [], i, all, h => by
    have : all = [] := h
    rw [this]
    rfl
  | f :: l, i, all, h => by
    obtain ⟨h1, h2, h3⟩ := h
    have hf : f.bytes.length = min 16 all.length := by rw [h1, List.length_take]
    by_cases h16 : 16 ≤ all.length
    · have ho : openL head i (f :: l) = openL head (i + 1) l := if_pos (by omega)
      rw [ho, chunks_open head l (i + 1) _ h3, List.length_drop, List.length_cons]
      refine Prod.ext ?_ (Prod.ext ?_ rfl)
      · show 16 * (i + 1) + (all.length - 16) = _
        omega
      · show 16 * (i + 1 + l.length) = 16 * (i + (l.length + 1))
        omega
    · have hd : all.drop 16 = [] := List.drop_eq_nil_of_le (by omega)
      rw [hd] at h3
      obtain rfl := h3.nil
      have ho : openL head i [f] = (16 * i + f.bytes.length, 16 * i + 16, (filesF head (i + 1) []).map (·.1)) := if_neg (by omega)
      rw [ho, hf, show min 16 all.length = all.length by omega]
      rfl
theorem chunks_get : ∀ (l : List FileM) (all : List UInt8) (i : Nat) (f : FileM), Chunks l all → l[i]? = some f → f.bytes = (all.drop (16 * i)).take 16
  | f0 :: l, all, 0, f, h, hf => by
    simp only [List.getElem?_cons_zero, Option.some.injEq] at hf
    subst hf
    exact h.1
  | f0 :: l, all, i + 1, f, h, hf => by
    have := chunks_get l _ i f h.2.2 (by simpa using hf)
    rw [this, List.drop_drop]
    congr 2
    omega
theorem chunks_snoc : ∀ (l : List FileM) (all s : List UInt8) (f : FileM), Chunks l all → all.length = 16 * l.length → f.bytes = s → s ≠ [] → s.length ≤ 16 → Chunks (l ++ [f]) (all ++ s)
  | [], all, s, f, h, h1, h2, h3, h4 => by
    have : all = [] := h
    subst this
    refine ⟨by rw [List.nil_append, h2, List.take_of_length_le h4], h3, ?_⟩
    show (s.drop 16) = []
    exact List.drop_eq_nil_of_le h4
  | f0 :: l, all, s, f, h, h1, h2, h3, h4 => by
    obtain ⟨e1, e2, e3⟩ := h
    rw [List.length_cons] at h1
    have hl : 16 ≤ all.length := by omega
    refine ⟨by rw [List.take_append_of_le_length hl]; exact e1, by simp [h3], ?_⟩
    rw [List.drop_append_of_le_length hl]
    exact chunks_snoc l _ s f e3 (by rw [List.length_drop]; omega) h2 h3 h4
theorem chunks_last : ∀ (l : List FileM) (all s : List UInt8) (f f' : FileM), Chunks (l ++ [f]) all → f'.bytes = f.bytes ++ s → f.bytes.length + s.length ≤ 16 → f.bytes.length < 16 → Chunks (l ++ [f']) (all ++ s)
  | [], all, s, f, f', h, h1, h2, h3 => by
    obtain ⟨e1, e2, e3⟩ := h
    have hf : f.bytes.length = min 16 all.length := by rw [e1, List.length_take]
    have hle : all.length < 16 := by omega
    rw [List.take_of_length_le (by omega)] at e1
    refine ⟨?_, by simp [e2], ?_⟩
    · rw [h1, e1, List.take_of_length_le (by rw [List.length_append, ← e1]; exact h2)]
    · show (all ++ s).drop 16 = []
      exact List.drop_eq_nil_of_le (by rw [List.length_append, ← e1]; exact h2)
  | f0 :: l, all, s, f, f', h, h1, h2, h3 => by
    obtain ⟨e1, e2, e3⟩ := h
    have hl : 16 ≤ all.length := by
      refine Nat.le_of_not_lt fun hx => ?_
      rw [List.drop_eq_nil_of_le (by omega)] at e3
      have := Chunks.nil e3
      simp at this
    refine ⟨by rw [List.take_append_of_le_length hl]; exact e1, by simp [e2], ?_⟩
    rw [List.drop_append_of_le_length hl]
    exact chunks_last l _ s f f' e3 h1 h2 h3
theorem setF_files (head : ByteArray) (f f' : FileM) (B : List FileM) : ∀ (A : List FileM) (i : Nat), 16 * (i + A.length + B.length + 1) ≤ 100000000 → setF (filesF head i (A ++ f :: B)) (nameB head (16 * (i + A.length))) f' = filesF head i (A ++ f' :: B)
  | [], i, hb => by
    show setF ((nameB head (16 * i), f) :: filesF head (i + 1) B) (nameB head (16 * i)) f' = (nameB head (16 * i), f') :: filesF head (i + 1) B
    have h1 : setF (filesF head (i + 1) B) (nameB head (16 * i)) f' = filesF head (i + 1) B := by
      refine setF_none f' fun hx => ?_
      obtain ⟨p, hp, hx⟩ := List.mem_map.1 hx
      obtain ⟨j, g, h1, h2, _, rfl⟩ := filesF_mem head B (i + 1) p hp
      simp only [List.length_nil] at hb
      have := nameB_inj head (by omega) (by omega) hx
      omega
    unfold setF at h1 ⊢
    rw [List.map_cons, if_pos rfl, h1]
  | a :: A, i, hb => by
    rw [List.length_cons] at hb
    show setF ((nameB head (16 * i), a) :: filesF head (i + 1) (A ++ f :: B)) (nameB head (16 * (i + (A.length + 1)))) f' = (nameB head (16 * i), a) :: filesF head (i + 1) (A ++ f' :: B)
    have h1 := setF_files head f f' B A (i + 1) (by omega)
    rw [show i + 1 + A.length = i + (A.length + 1) by omega] at h1
    unfold setF at h1 ⊢
    rw [List.map_cons, h1, if_neg]
    intro hx
    have := nameB_inj head (by omega) (by omega) hx
    omega
theorem putB_end (b s : List UInt8) : putB b b.length s = b ++ s := by
  unfold putB
  split
  · rename_i h; rw [h, List.append_nil]
  · have h1 : (b ++ List.replicate (b.length + s.length - b.length) 0).take b.length = b := by
      rw [List.take_append_of_le_length (Nat.le_refl _), List.take_length]
    have h2 : (b ++ List.replicate (b.length + s.length - b.length) (0 : UInt8)).drop (b.length + s.length) = [] := by
      refine List.drop_eq_nil_of_le ?_
      rw [List.length_append, List.length_replicate]
      omega
    rw [h1, h2, List.append_nil]
structure AppF (f : FileM) : Prop where
  img : f.image = f.bytes.take f.image.length
  wr : ∀ x ∈ f.writes, f.image.length ≤ x.at_ ∧ ∀ k, k < x.s.size → x.s.data.toList[k]? = f.bytes[x.at_ + k]?
theorem AppF.empty : AppF emptyF := ⟨rfl, fun x hx => by cases hx⟩
theorem size_toList (s : ByteArray) : s.data.toList.length = s.size := by rw [Array.length_toList]; rfl
theorem AppF.add {n : Nat} {f : FileM} (h : AppF f) (hg : GoodF n f) (t : Int) (s : ByteArray) : AppF (addF f ⟨t, f.bytes.length, s⟩) := by
  have e : (addF f ⟨t, f.bytes.length, s⟩).bytes = f.bytes ++ s.data.toList := putB_end _ _
  refine ⟨?_, fun x hx => ?_⟩
  · rw [e]
    show f.image = (f.bytes ++ s.data.toList).take f.image.length
    rw [List.take_append_of_le_length hg.image]
    exact h.img
  · rw [e]
    rcases List.mem_append.1 (show x ∈ f.writes ++ [_] from hx) with hx | hx
    · obtain ⟨h1, h2⟩ := h.wr x hx
      have h3 := hg.writes x hx
      exact ⟨h1, fun k hk => by rw [List.getElem?_append_left (by omega)]; exact h2 k hk⟩
    · simp only [List.mem_singleton] at hx
      subst hx
      refine ⟨hg.image, fun k hk => ?_⟩
      show s.data.toList[k]? = (f.bytes ++ s.data.toList)[f.bytes.length + k]?
      rw [List.getElem?_append_right (by omega)]
      congr 1
      omega
theorem syncF_image {n : Nat} {f : FileM} (hg : GoodF n f) : syncF f = ⟨f.bytes, f.bytes, []⟩ := by unfold syncF; rw [← hg.bytes]
theorem AppF.sync {n : Nat} {f : FileM} (hg : GoodF n f) : AppF (syncF f) := by
  rw [syncF_image hg]
  exact ⟨by simp, fun x hx => by cases hx⟩
theorem sync_same {n : Nat} {f : FileM} (hg : GoodF n f) (h : f.writes = []) : syncF f = f := by
  rw [syncF_image hg]
  have h1 := hg.bytes
  rw [h] at h1
  have h2 : f.bytes = f.image := h1
  cases f
  simp only at h h2 ⊢
  rw [h, h2]
structure AgI (n : Nat) (m : RowM) (st : St) (l : List FileM) (all : List UInt8) (safe : Nat) : Prop where
  calm : Calm n st
  cap : st.cap = 1048576
  head : m.head.size ≤ 100
  fs : st.fs = filesF m.head 0 l
  size : m.size = 16
  beg : m.begin_ = 0
  end_ : m.end_ = (all.length : Int)
  next : m.next = ((16 * l.length : Nat) : Int)
  ch : Chunks l all
  app : ∀ f ∈ l, AppF f
  tt : ∃ t : Nat, m.touched = ((16 * t : Nat) : Int) ∧ t ≤ l.length ∧ ∀ i f, i < t → l[i]? = some f → f.writes = []
  held : ∀ (i : Nat) f, l[i]? = some f → min 16 (safe - 16 * i) ≤ f.image.length
  sl : safe ≤ all.length
theorem AgI.bytes {n : Nat} {m : RowM} {st : St} {l : List FileM} {all : List UInt8} {safe : Nat} (h : AgI n m st l all safe) : ∀ f ∈ l, f.bytes.length ≤ 16 := fun f hf => by
  obtain ⟨i, hi⟩ := List.getElem?_of_mem hf
  rw [chunks_get l all i f h.ch hi, List.length_take]
  omega
theorem AgI.len {n : Nat} {m : RowM} {st : St} {l : List FileM} {all : List UInt8} {safe : Nat} (h : AgI n m st l all safe) : l.length ≤ n := by
  have := h.calm.good.len
  rwa [h.fs, filesF_length] at this
theorem AgI.good {n : Nat} {m : RowM} {st : St} {l : List FileM} {all : List UInt8} {safe : Nat} (h : AgI n m st l all safe) {f : FileM} (hf : f ∈ l) : GoodF n f := by
  obtain ⟨i, hi⟩ := List.getElem?_of_mem hf
  have h1 : ∀ (l : List FileM) (k i : Nat), l[i]? = some f → (nameB m.head (16 * (k + i)), f) ∈ filesF m.head k l := by
    intro l
    induction l with
    | nil => exact fun k i h => by cases h
    | cons a l ih =>
      intro k i h
      cases i with
      | zero =>
        simp only [List.getElem?_cons_zero, Option.some.injEq] at h
        subst h
        exact List.mem_cons_self ..
      | succ i =>
        refine List.mem_cons_of_mem _ ?_
        have := ih (k + 1) i (by simpa using h)
        rwa [show k + 1 + i = k + (i + 1) by omega] at this
  have := h1 l 0 i hi
  rw [← h.fs] at this
  exact h.calm.good.files _ this
theorem AgI.new (head : ByteArray) (hh : head.size ≤ 100) (c : Int) (hc : (newSt c).cap = 1048576) : AgI 0 (newRow head 16) (newSt c) [] [] 0 :=
  ⟨new_calm c, hc, hh, rfl, rfl, rfl, rfl, rfl, rfl, fun f hf => (by cases hf), ⟨0, rfl, Nat.le_refl _, fun i f hi => (by omega)⟩, fun i f hf => (by simp at hf), Nat.le_refl _⟩
theorem AgI.rowOk {n : Nat} {m : RowM} {st : St} {l : List FileM} {all : List UInt8} {safe : Nat} (h : AgI n m st l all safe) (hn : n ≤ 1000000) : RowOk n m st := by
  have hl := h.len
  have hc := chunks_len l all h.ch
  have h1 := h.size
  have h2 := h.beg
  have h3 := h.end_
  have h4 := h.next
  refine ⟨h.calm, by omega, by omega, by omega, by omega, by omega, by omega, by have := h.head; omega, fun he => ?_, fun he => ?_⟩
  · rw [h4]
    unfold St.find
    rw [h.fs]
    exact filesF_none m.head l 0 l.length (by omega) (by omega) (by omega)
  · have hne : l ≠ [] := fun hx => by
      have h5 := hc.1
      rw [hx, List.length_nil] at h5 h4
      omega
    have hp := List.length_pos_iff.2 hne
    refine ⟨by omega, ?_⟩
    obtain ⟨l0, f, rfl⟩ : ∃ l0 f, l = l0 ++ [f] := ⟨l.dropLast, l.getLast hne, (List.dropLast_concat_getLast hne).symm⟩
    refine ⟨f, ?_, ?_⟩
    · rw [h4, h1, List.length_append]
      have e : (((16 * (l0.length + [f].length) : Nat) : Int) - 16).toNat = 16 * (0 + l0.length) := by simp; omega
      rw [e]
      unfold St.find
      rw [h.fs]
      exact filesF_find m.head (l0 ++ [f]) 0 l0.length f (by omega) (by simp)
    · have hg := chunks_get (l0 ++ [f]) all l0.length f h.ch (by simp)
      rw [hg, List.length_take, List.length_drop, h3, h4, h1]
      rw [List.length_append, List.length_singleton] at hc ⊢
      have := hc.2 hne
      omega
theorem AgI.room {n : Nat} {m : RowM} {st : St} {l : List FileM} {all : List UInt8} {safe : Nat} (h : AgI n m st l all safe) : roomR m = if all.length = 16 * l.length then 16 else ((16 * l.length : Nat) : Int) - all.length := by
  unfold roomR
  rw [h.end_, h.next, h.size]
  by_cases e : all.length = 16 * l.length
  · rw [if_pos e, if_pos (by rw [e])]
  · rw [if_neg e, if_neg (fun hx => e (by exact_mod_cast hx))]
theorem AgI.append {n : Nat} {m : RowM} {st : St} {l : List FileM} {all : List UInt8} {safe : Nat} (h : AgI n m st l all safe) (hn : n ≤ 1000000) (s : ByteArray) (hs0 : s.size ≠ 0) (hs : (s.size : Int) ≤ roomR m) (hcap : s.size ≤ st.cap - st.size) :
    ∃ l', AgI (n + 2) (appM m s.size) (appS m st s) l' (all ++ s.data.toList) safe := by
  have hok := h.rowOk hn
  obtain ⟨hcalm, hcp, hsz, hl0, hl1, hl2, f, hf, hfl⟩ := hok.pre
  have hr := h.room
  have hl := h.len
  have hc := chunks_len l all h.ch
  have hst : s.data.toList.length = s.size := size_toList s
  have hsne : s.data.toList ≠ [] := fun hx => by rw [hx] at hst; simp at hst; omega
  -- the last file, ahead of the write
  obtain ⟨l0, f0, e1, e2, e3, e4, e5, e6⟩ : ∃ l0 f0, (ps m st).fs = filesF m.head 0 (l0 ++ [f0]) ∧ (lastOf m).toNat = 16 * l0.length ∧ (pm m).next = ((16 * (l0.length + 1) : Nat) : Int) ∧ (∀ f', f'.bytes = f0.bytes ++ s.data.toList → Chunks (l0 ++ [f']) (all ++ s.data.toList)) ∧ AppF f0 ∧
      (∀ i g, (l0 ++ [f0])[i]? = some g → i < l0.length → l[i]? = some g) ∧ (l0.length ≤ l.length) ∧ min 16 (safe - 16 * l0.length) ≤ f0.image.length := by
    by_cases he : m.end_ = m.next
    · have hln : all.length = 16 * l.length := by have := h.end_; have := h.next; omega
      refine ⟨l, emptyF, ?_, ?_, ?_, ?_, AppF.empty, ?_, Nat.le_refl _, ?_⟩
      · unfold ps
        rw [if_pos he, h.calm.createS (hok.fresh he), filesF_append, h.fs, h.next, show (((16 * l.length : Nat) : Int)).toNat = 16 * (0 + l.length) by omega]
        rfl
      · unfold lastOf pm
        rw [if_pos he]
        simp only [h.next, h.size]
        omega
      · unfold pm
        rw [if_pos he]
        simp only [h.next, h.size]
        omega
      · intro f' hf'
        refine chunks_snoc l all _ f' h.ch hln hf' hsne ?_
        rw [hr, if_pos hln] at hs
        omega
      · intro i g hg hi
        rwa [List.getElem?_append_left hi] at hg
      · have := h.sl
        show min 16 (safe - 16 * l.length) ≤ 0
        omega
    · have hln : all.length ≠ 16 * l.length := fun hx => he (by rw [h.end_, h.next, hx])
      have hne : l ≠ [] := fun hx => by
        rw [hx] at hc hln
        simp at hc hln
        exact hln hc
      obtain ⟨l0, f0, hl0⟩ : ∃ l0 f0, l = l0 ++ [f0] := ⟨l.dropLast, l.getLast hne, (List.dropLast_concat_getLast hne).symm⟩
      have hlen : l.length = l0.length + 1 := by rw [hl0]; simp
      have hfb : f0.bytes.length = all.length - 16 * l0.length := by
        rw [chunks_get l all l0.length f0 h.ch (by rw [hl0]; simp), List.length_take, List.length_drop]
        have := hc.2 hne
        omega
      refine ⟨l0, f0, ?_, ?_, ?_, ?_, h.app f0 (by rw [hl0]; simp), ?_, by omega, h.held l0.length f0 (by rw [hl0]; simp)⟩
      · unfold ps
        rw [if_neg he, h.fs, hl0]
      · unfold lastOf pm
        rw [if_neg he, h.next, h.size]
        omega
      · unfold pm
        rw [if_neg he, h.next, hlen]
      · intro f' hf'
        rw [hr, if_neg hln] at hs
        have hch := h.ch
        rw [hl0] at hch
        have hc2 := hc.2 hne
        have hc1 := hc.1
        exact chunks_last l0 all _ f0 f' hch hf' (by omega) (by omega)
      · intro i g hg _
        rw [hl0]
        exact hg
  obtain ⟨e6, e7, e8⟩ := e6
  obtain rfl : f = f0 := by
    have h1 : (ps m st).find (nameB m.head (16 * (0 + l0.length))) = some f0 := by
      unfold St.find
      rw [e1]
      exact filesF_find m.head (l0 ++ [f0]) 0 l0.length f0 (by simp; omega) (by simp)
    rw [e2] at hf
    rw [Nat.zero_add, hf] at h1
    exact Option.some.inj h1
  have hgf : GoodF (n + 1) f := by
    have : ((nameB m.head (16 * l0.length)), f) ∈ (ps m st).fs := by
      rw [e1, filesF_append]
      refine List.mem_append_right _ ?_
      rw [Nat.zero_add]
      exact List.mem_cons_self ..
    exact hcalm.good.files _ this
  have hw := hcalm.writeS (s := s) hf hfl (by rw [hcp, hsz]; exact hcap) hs0
  have hwc := hcalm.write (s := s) hf hfl (by rw [hcp, hsz]; exact hcap) hs0
  rw [show (m.end_ - lastOf m).toNat = f.bytes.length by omega] at hw
  have hset := setF_files m.head f (addF f ⟨((ps m st).turn : Int) + 1, f.bytes.length, s⟩) [] l0 0 (by simp; omega)
  rw [Nat.zero_add] at hset
  have hpm : (pm m).head = m.head ∧ (pm m).size = m.size ∧ (pm m).begin_ = m.begin_ := by unfold pm; split <;> exact ⟨rfl, rfl, rfl⟩
  have hbytes : (addF f ⟨((ps m st).turn : Int) + 1, f.bytes.length, s⟩).bytes = f.bytes ++ s.data.toList := putB_end _ _
  refine ⟨l0 ++ [addF f ⟨((ps m st).turn : Int) + 1, f.bytes.length, s⟩], ⟨hwc, ?_, ?_, ?_, ?_, ?_, ?_, ?_, e4 _ hbytes, ?_, ?_, ?_, ?_⟩⟩
  · show (writeS _ _ _ _).cap = _
    rw [hw]
    exact hcp.trans h.cap
  · show (pm m).head.size ≤ 100
    rw [hpm.1]
    exact h.head
  · show (writeS _ _ _ _).fs = filesF (pm m).head 0 _
    rw [hw, hpm.1, e2]
    show setF (ps m st).fs _ _ = _
    rw [e1]
    exact hset
  · exact hpm.2.1.trans h.size
  · exact hpm.2.2.trans h.beg
  · show m.end_ + (s.size : Int) = _
    rw [h.end_, List.length_append, hst]
    omega
  · show (pm m).next = _
    rw [e3, List.length_append]
    rfl
  · intro g hg
    rcases List.mem_append.1 hg with hg | hg
    · obtain ⟨i, hi⟩ := List.getElem?_of_mem hg
      have hi2 := (List.getElem?_eq_some_iff.1 hi).1
      exact h.app g (List.mem_of_getElem? (e6 i g (by rw [List.getElem?_append_left hi2]; exact hi) hi2))
    · simp only [List.mem_singleton] at hg
      subst hg
      exact e5.add hgf _ s
  · obtain ⟨t, h1, h2, h3⟩ := h.tt
    refine ⟨min t l0.length, ?_, by rw [List.length_append]; omega, fun i g hi hg => ?_⟩
    · show min m.touched (lastOf m) = _
      omega
    · rw [List.getElem?_append_left (by omega)] at hg
      exact h3 i g (by omega) (e6 i g (by rw [List.getElem?_append_left (by omega)]; exact hg) (by omega))
  · intro i g hg
    by_cases hi : i < l0.length
    · rw [List.getElem?_append_left hi] at hg
      exact h.held i g (e6 i g (by rw [List.getElem?_append_left hi]; exact hg) hi)
    · have hi2 := (List.getElem?_eq_some_iff.1 hg).1
      rw [List.length_append, List.length_singleton] at hi2
      obtain rfl : i = l0.length := by omega
      rw [List.getElem?_append_right (Nat.le_refl _), Nat.sub_self] at hg
      simp only [List.getElem?_cons_zero, Option.some.injEq] at hg
      subst hg
      exact e8
  · rw [List.length_append]
    have := h.sl
    omega
theorem places_files (head : ByteArray) : ∀ (B : List FileM) (i : Nat), (plS (16 * (i + B.length)) 16 (16 * i)).map (nameB head) = (filesF head i B).map (·.1)
  | [], i => by rw [List.length_nil, Nat.add_zero, plS_done _ _ _ (by omega)]; rfl
  | f :: B, i => by
    rw [List.length_cons, plS_step _ _ _ (by omega) (by omega), List.map_cons]
    show _ = nameB head (16 * i) :: (filesF head (i + 1) B).map (·.1)
    rw [← places_files head B (i + 1), show i + 1 + B.length = i + (B.length + 1) by omega, show 16 * (i + 1) = 16 * i + 16 by omega]
theorem sync_files (head : ByteArray) : ∀ (B A : List FileM) (st : St), st.fs = filesF head 0 (A ++ B) → 16 * (A.length + B.length) ≤ 100000000 → (syncAll st ((filesF head A.length B).map (·.1))).fs = filesF head 0 (A ++ B.map syncF)
  | [], A, st, h, _ => h
  | f :: B, A, st, h, hb => by
    rw [List.length_cons] at hb
    show (syncAll (sync1 st (nameB head (16 * A.length))) ((filesF head (A.length + 1) B).map (·.1))).fs = _
    have h1 : (sync1 st (nameB head (16 * A.length))).fs = filesF head 0 ((A ++ [syncF f]) ++ B) := by
      have hf : st.find (nameB head (16 * A.length)) = some f := by
        unfold St.find
        rw [h]
        have := filesF_find head (A ++ f :: B) 0 A.length f (by simp; omega) (by simp)
        rwa [Nat.zero_add] at this
      unfold sync1
      rw [hf]
      show setF st.fs _ _ = _
      rw [h, List.append_assoc]
      have := setF_files head f (syncF f) B A 0 (by omega)
      rwa [Nat.zero_add] at this
    have h2 := sync_files head B (A ++ [syncF f]) _ h1 (by rw [List.length_append, List.length_singleton]; omega)
    rw [List.length_append, List.length_singleton] at h2
    rw [h2, List.append_assoc]
    rfl
theorem AgI.touched {n : Nat} {m : RowM} {st : St} {l : List FileM} {all : List UInt8} {safe : Nat} (h : AgI n m st l all safe) : ∃ A B, l = A ++ B ∧ m.touched.toNat = 16 * A.length ∧ rowNames m m.touched.toNat = (filesF m.head A.length B).map (·.1) ∧ (∀ f ∈ A, f.writes = []) := by
  obtain ⟨t, h1, h2, h3⟩ := h.tt
  refine ⟨l.take t, l.drop t, (List.take_append_drop t l).symm, ?_, ?_, fun f hf => ?_⟩
  · rw [List.length_take, Nat.min_eq_left h2]
    omega
  · unfold rowNames
    have e1 : m.next.toNat = 16 * l.length := by have := h.next; omega
    have e2 : m.size.toNat = 16 := by have := h.size; omega
    have e3 : m.touched.toNat = 16 * t := by omega
    have := places_files m.head (l.drop t) t
    rw [List.length_drop, show t + (l.length - t) = l.length by omega] at this
    rw [e1, e2, e3, this, List.length_take, Nat.min_eq_left h2]
  · obtain ⟨i, hi⟩ := List.getElem?_of_mem hf
    have hi2 := (List.getElem?_eq_some_iff.1 hi).1
    rw [List.length_take] at hi2
    rw [List.getElem?_take_of_lt (by omega)] at hi
    exact h3 i f (by omega) hi
theorem AgI.found {n : Nat} {m : RowM} {st : St} {l : List FileM} {all : List UInt8} {safe : Nat} (h : AgI n m st l all safe) : ∀ t ∈ rowNames m m.touched.toNat, (st.find t).isSome = true := by
  obtain ⟨A, B, e1, e2, e3, e4⟩ := h.touched
  rw [e3]
  intro t ht
  obtain ⟨p, hp, rfl⟩ := List.mem_map.1 ht
  refine find_some_mem ⟨p, ?_, rfl⟩
  rw [h.fs, e1, filesF_append, Nat.zero_add]
  exact List.mem_append_right _ hp
theorem chunks_map : ∀ (l : List FileM) (all : List UInt8) (F : FileM → FileM), (∀ f, (F f).bytes = f.bytes) → Chunks l all → Chunks (l.map F) all
  | [], all, F, hF, h => h
  | f :: l, all, F, hF, h => ⟨(hF f).trans h.1, h.2.1, chunks_map l _ F hF h.2.2⟩
theorem AgI.sync {n : Nat} {m : RowM} {st : St} {l : List FileM} {all : List UInt8} {safe : Nat} (h : AgI n m st l all safe) (hn : n ≤ 1000000) : AgI n (syncedM m) (syncAll st (rowNames m m.touched.toNat)) (l.map syncF) all all.length := by
  obtain ⟨A, B, e1, e2, e3, e4⟩ := h.touched
  have hln := h.len
  have hll : l.length = A.length + B.length := by rw [e1, List.length_append]
  have hAs : A.map syncF = A := by
    refine (List.map_congr_left fun f hf => ?_).trans (List.map_id A)
    exact sync_same (h.good (f := f) (by rw [e1]; exact List.mem_append_left _ hf)) (e4 f hf)
  have hfs := sync_files m.head B A st (by rw [h.fs, e1]) (by omega)
  have hls : l.map syncF = A ++ B.map syncF := by rw [e1, List.map_append, hAs]
  refine ⟨h.calm.sync _, ?_, h.head, ?_, h.size, h.beg, h.end_, ?_, chunks_map l all syncF (fun _ => rfl) h.ch, fun f hf => ?_, ⟨l.length, ?_, by rw [List.length_map]; exact Nat.le_refl _, fun i f hi hf => ?_⟩, fun i f hf => ?_, Nat.le_refl _⟩
  · exact (syncAll_keeps st _).2.2.1.trans h.cap
  · rw [e3, hfs, hls]
    rfl
  · rw [List.length_map]
    exact h.next
  · obtain ⟨f0, h0, rfl⟩ := List.mem_map.1 hf
    exact AppF.sync (h.good h0)
  · exact h.next
  · rw [List.getElem?_map] at hf
    cases h0 : l[i]? with
    | none => rw [h0] at hf; cases hf
    | some f0 => rw [h0] at hf; obtain rfl := Option.some.inj hf; rfl
  · rw [List.getElem?_map] at hf
    cases h0 : l[i]? with
    | none => rw [h0] at hf; cases hf
    | some f0 =>
      rw [h0] at hf
      obtain rfl := Option.some.inj hf
      rw [syncF_image (h.good (List.mem_of_getElem? h0))]
      show _ ≤ f0.bytes.length
      rw [chunks_get l all i f0 h.ch h0, List.length_take, List.length_drop]
      omega
theorem AgI.open_ {n : Nat} {m : RowM} {st : St} {l : List FileM} {all : List UInt8} {safe : Nat} (h : AgI n m st l all safe) (hn : n ≤ 1000000) : AgI n (openM st m.head 16) st l all safe ∧ openS st m.head 16 = st := by
  have hln := h.len
  obtain ⟨h1, h2⟩ := open_files m.head st l h.fs h.bytes (by omega)
  have h3 := chunks_open m.head l 0 all h.ch
  rw [h3] at h1 h2
  simp only [Nat.zero_add, Nat.mul_zero] at h1 h2
  rw [h1]
  refine ⟨⟨h.calm, h.cap, h.head, h.fs, rfl, rfl, rfl, rfl, h.ch, h.app, ⟨0, rfl, Nat.zero_le _, fun i f hi => by omega⟩, h.held, h.sl⟩, h2⟩
theorem putB_get (b : List UInt8) (a : Nat) (s : List UInt8) (hs : s ≠ []) (j : Nat) : (putB b a s)[j]? = if j < a then (if j < b.length then b[j]? else some 0) else if j < a + s.length then s[j - a]? else b[j]? := by
  have hp := List.length_pos_iff.2 hs
  unfold putB
  rw [if_neg hs]
  obtain ⟨z, hz⟩ : ∃ z, z = b ++ List.replicate (a + s.length - b.length) (0 : UInt8) := ⟨_, rfl⟩
  have hzl : z.length = b.length + (a + s.length - b.length) := by rw [hz, List.length_append, List.length_replicate]
  have hzg : ∀ k, k < z.length → z[k]? = if k < b.length then b[k]? else some 0 := fun k hk => by
    rw [hz]
    by_cases hb : k < b.length
    · rw [if_pos hb, List.getElem?_append_left hb]
    · rw [if_neg hb, List.getElem?_append_right (by omega), List.getElem?_replicate, if_pos (by omega)]
  rw [← hz]
  have ht : (z.take a).length = a := by rw [List.length_take]; omega
  by_cases h1 : j < a
  · rw [if_pos h1, List.append_assoc, List.getElem?_append_left (by omega), List.getElem?_take_of_lt h1, hzg j (by omega)]
  · rw [if_neg h1]
    by_cases h2 : j < a + s.length
    · rw [if_pos h2, List.append_assoc, List.getElem?_append_right (by omega), ht, List.getElem?_append_left (by omega)]
    · rw [if_neg h2, List.getElem?_append_right (by rw [List.length_append]; omega), List.length_append, ht, List.getElem?_drop]
      rw [show a + s.length + (j - (a + s.length)) = j by omega]
      by_cases h3 : j < z.length
      · rw [hzg j h3, if_pos (by omega)]
      · rw [List.getElem?_eq_none (by omega), List.getElem?_eq_none (by omega)]
structure Like (i0 : Nat) (bs c : List UInt8) : Prop where
  low : i0 ≤ c.length
  high : c.length ≤ bs.length
  get : ∀ j, j < c.length → c[j]? = bs[j]? ∨ (i0 ≤ j ∧ c[j]? = some 0)
theorem Like.refl {i0 : Nat} {bs : List UInt8} (h : i0 ≤ bs.length) : Like i0 bs bs := ⟨h, Nat.le_refl _, fun _ _ => .inl rfl⟩
def PieceB (i0 : Nat) (bs : List UInt8) (x : WriteM) : Prop := i0 ≤ x.at_ ∧ x.at_ + x.s.size ≤ bs.length ∧ ∀ k, k < x.s.size → x.s.data.toList[k]? = bs[x.at_ + k]?
theorem Like.put {i0 : Nat} {bs c : List UInt8} {x : WriteM} (h : Like i0 bs c) (hx : PieceB i0 bs x) : Like i0 bs (putB c x.at_ x.s.data.toList) := by
  obtain ⟨h1, h2, h3⟩ := hx
  have hl := size_toList x.s
  by_cases hs : x.s.data.toList = []
  · rw [hs, putB_nil]; exact h
  · have hlen := putB_length c x.at_ _ hs
    have := h.low
    have := h.high
    refine ⟨by omega, by omega, fun j hj => ?_⟩
    rw [putB_get c x.at_ _ hs j]
    by_cases h4 : j < x.at_
    · rw [if_pos h4]
      by_cases h5 : j < c.length
      · rw [if_pos h5]
        exact h.get j h5
      · rw [if_neg h5]
        exact .inr ⟨by omega, rfl⟩
    · rw [if_neg h4]
      by_cases h5 : j < x.at_ + x.s.data.toList.length
      · rw [if_pos h5]
        left
        rw [h3 (j - x.at_) (by omega), show x.at_ + (j - x.at_) = j by omega]
      · rw [if_neg h5]
        exact h.get j (by omega)
theorem find_drop {fs : List (ByteArray × FileM)} {a b : ByteArray} (hab : a ≠ b) : (dropF fs b).find? (fun p => decide (p.1 = a)) = fs.find? (fun p => decide (p.1 = a)) := by
  unfold dropF
  induction fs with
  | nil => rfl
  | cons p fs ih =>
    rw [List.filter_cons]
    by_cases hb : p.1 = b
    · rw [if_neg (by simp [hb]), ih, List.find?_cons_of_neg (by simp [hb, Ne.symm hab])]
    · rw [if_pos (by simp [hb]), List.find?_cons, List.find?_cons, ih]
theorem find_deleteAll {st : St} {a : ByteArray} {ts : List ByteArray} (h : a ∉ ts) : (deleteAll st ts).find a = st.find a := by
  unfold deleteAll
  induction ts generalizing st with
  | nil => rfl
  | cons t ts ih =>
    rw [List.mem_cons, not_or] at h
    rw [List.foldl_cons, ih h.2]
    unfold St.find removeS
    simp only
    rw [find_drop h.1]
theorem openL_spec (head : ByteArray) : ∀ (l : List FileM) (i : Nat), (∀ f ∈ l, f.bytes.length ≤ 16) → 16 * (i + l.length) ≤ 100000000 →
    (16 * i ≤ (openL head i l).1 ∧ (openL head i l).1 ≤ (openL head i l).2.1 ∧ (openL head i l).2.1 ≤ 16 * (i + l.length)) ∧
    (((openL head i l).1 = 16 * (i + l.length) ∧ ∀ f ∈ l, f.bytes.length = 16) ∨ ∃ t c, l[t]? = some c ∧ (openL head i l).1 = 16 * (i + t) + c.bytes.length ∧ c.bytes.length < 16) ∧
    ∀ k c, l[k]? = some c → 16 * (i + k) < (openL head i l).1 → c.bytes.length = min 16 ((openL head i l).1 - 16 * (i + k)) ∧ nameB head (16 * (i + k)) ∉ (openL head i l).2.2
  | [], i, _, _ => ⟨⟨Nat.le_refl _, Nat.le_refl _, Nat.le_refl _⟩, .inl ⟨rfl, fun f hf => by cases hf⟩, fun k c h => by simp at h⟩
  | f :: l, i, h, hb => by
    rw [List.length_cons] at hb
    by_cases h16 : f.bytes.length = 16
    · have ho : openL head i (f :: l) = openL head (i + 1) l := if_pos h16
      obtain ⟨⟨a1, a2, a3⟩, b, c⟩ := openL_spec head l (i + 1) (fun g hg => h g (List.mem_cons_of_mem _ hg)) (by omega)
      rw [ho, List.length_cons]
      refine ⟨⟨by omega, a2, by omega⟩, ?_, fun k g hk hlt => ?_⟩
      · rcases b with ⟨b1, b2⟩ | ⟨t, g, b1, b2, b3⟩
        · refine .inl ⟨by omega, fun g hg => ?_⟩
          rcases List.mem_cons.1 hg with rfl | hg
          · exact h16
          · exact b2 g hg
        · exact .inr ⟨t + 1, g, by simpa using b1, by omega, b3⟩
      · cases k with
        | zero =>
          simp only [List.getElem?_cons_zero, Option.some.injEq] at hk
          subst hk
          refine ⟨by omega, fun hx => ?_⟩
          have hr : ∀ (l : List FileM) (i : Nat) (t : ByteArray), 16 * (i + l.length) ≤ 100000000 → t ∈ (openL head i l).2.2 → ∃ j, i ≤ j ∧ 16 * j ≤ 99999999 ∧ t = nameB head (16 * j) := by
            intro l
            induction l with
            | nil => intro i t _ ht; cases ht
            | cons f l ih =>
              intro i t hb ht
              rw [List.length_cons] at hb
              by_cases h16 : f.bytes.length = 16
              · have ho : openL head i (f :: l) = openL head (i + 1) l := if_pos h16
                rw [ho] at ht
                obtain ⟨j, h1, h2, h3⟩ := ih (i + 1) t (by omega) ht
                exact ⟨j, by omega, h2, h3⟩
              · have ho : openL head i (f :: l) = (16 * i + f.bytes.length, 16 * i + 16, (filesF head (i + 1) l).map (·.1)) := if_neg h16
                rw [ho] at ht
                obtain ⟨p, hp, rfl⟩ := List.mem_map.1 ht
                obtain ⟨j, g, h1, h2, _, rfl⟩ := filesF_mem head l (i + 1) p hp
                exact ⟨j, by omega, by omega, rfl⟩
          obtain ⟨j, h1, h2, h3⟩ := hr l (i + 1) _ (by omega) hx
          have := nameB_inj head (by omega) (by omega) h3
          omega
        | succ k =>
          have := c k g (by simpa using hk) (by omega)
          rwa [show i + 1 + k = i + (k + 1) by omega] at this
    · have ho : openL head i (f :: l) = (16 * i + f.bytes.length, 16 * i + 16, (filesF head (i + 1) l).map (·.1)) := if_neg h16
      have hf := h f (List.mem_cons_self ..)
      rw [ho, List.length_cons]
      simp only
      refine ⟨⟨by omega, by omega, by omega⟩, .inr ⟨0, f, rfl, rfl, by omega⟩, fun k g hk hlt => ?_⟩
      have hk0 : k = 0 := by omega
      subst hk0
      simp only [List.getElem?_cons_zero, Option.some.injEq] at hk
      subst hk
      refine ⟨by omega, fun hx => ?_⟩
      obtain ⟨p, hp, hx⟩ := List.mem_map.1 hx
      obtain ⟨j, g, h1, h2, _, rfl⟩ := filesF_mem head l (i + 1) p hp
      have := nameB_inj head (by omega) (by omega) hx
      omega
structure LeftOf (head : ByteArray) (st : St) (e : Nat) (all : List UInt8) (safe : Nat) : Prop where
  high : e ≤ all.length
  low : safe ≤ e
  file : ∀ i, 16 * i < e → ∃ c, st.find (nameB head (16 * i)) = some c ∧ c.bytes.length = min 16 (e - 16 * i) ∧ ∀ j, j < c.bytes.length → c.bytes[j]? = all[16 * i + j]? ∨ (safe ≤ 16 * i + j ∧ c.bytes[j]? = some 0)
theorem AgI.left {n : Nat} {m : RowM} {st : St} {l : List FileM} {all : List UInt8} {safe : Nat} (h : AgI n m st l all safe) (hn : n ≤ 1000000) {st' : St} {cl : List FileM} (hfs : st'.fs = filesF m.head 0 cl) (hlen : cl.length = l.length)
    (hlike : ∀ (i : Nat) (f : FileM), l[i]? = some f → ∃ c : FileM, cl[i]? = some c ∧ c.writes = [] ∧ Like f.image.length f.bytes c.bytes) :
    ∃ e x, openM st' m.head 16 = rowS m.head e x ∧ e ≤ x ∧ x ≤ 16 * n ∧ LeftOf m.head (openS st' m.head 16) e all safe := by
  have hln := h.len
  have hc := chunks_len l all h.ch
  have hget : ∀ (i : Nat) (c : FileM), cl[i]? = some c → ∃ f, l[i]? = some f ∧ Like f.image.length f.bytes c.bytes := fun i c hi => by
    have hi2 := (List.getElem?_eq_some_iff.1 hi).1
    obtain ⟨f, hf⟩ : ∃ f, l[i]? = some f := ⟨_, List.getElem?_eq_getElem (by omega)⟩
    obtain ⟨c', h1, _, h2⟩ := hlike i f hf
    rw [hi] at h1
    obtain rfl := Option.some.inj h1
    exact ⟨f, hf, h2⟩
  have hle : ∀ f ∈ cl, f.bytes.length ≤ 16 := fun c hcm => by
    obtain ⟨i, hi⟩ := List.getElem?_of_mem hcm
    obtain ⟨f, hf, hl⟩ := hget i c hi
    have := h.bytes f (List.mem_of_getElem? hf)
    have := hl.high
    omega
  obtain ⟨h1, h2⟩ := open_files m.head st' cl hfs hle (by omega)
  obtain ⟨⟨a1, a2, a3⟩, b, c⟩ := openL_spec m.head cl 0 hle (by omega)
  rw [Nat.zero_add] at a3
  obtain ⟨e, he⟩ : ∃ e, e = (openL m.head 0 cl).1 := ⟨_, rfl⟩
  obtain ⟨x, hx⟩ : ∃ x, x = (openL m.head 0 cl).2.1 := ⟨_, rfl⟩
  rw [← he, ← hx] at h1
  rw [← he] at a1 a2 b c
  rw [← hx] at a2 a3
  have hhigh : e ≤ all.length := by
    rcases b with ⟨b1, b2⟩ | ⟨t, g, b1, b2, b3⟩
    · by_cases hne : l = []
      · rw [hne, List.length_nil] at hlen
        omega
      · have hp := List.length_pos_iff.2 hne
        obtain ⟨g, hg⟩ : ∃ g, cl[l.length - 1]? = some g := ⟨_, List.getElem?_eq_getElem (by omega)⟩
        obtain ⟨f, hf, hlk⟩ := hget _ g hg
        have h3 := b2 g (List.mem_of_getElem? hg)
        have h4 := hlk.high
        rw [chunks_get l all _ f h.ch hf, List.length_take, List.length_drop] at h4
        omega
    · obtain ⟨f, hf, hlk⟩ := hget t g b1
      have h4 := hlk.high
      have hi2 := (List.getElem?_eq_some_iff.1 hf).1
      rw [chunks_get l all _ f h.ch hf, List.length_take, List.length_drop] at h4
      have := hc.2 (fun hx => by rw [hx] at hi2; simp at hi2)
      omega
  have hlow : safe ≤ e := by
    have hsl := h.sl
    rcases b with ⟨b1, b2⟩ | ⟨t, g, b1, b2, b3⟩
    · omega
    · obtain ⟨f, hf, hlk⟩ := hget t g b1
      have h3 := h.held t f hf
      have h4 := hlk.low
      omega
  refine ⟨e, x, h1, a2, by omega, hhigh, hlow, fun i hi => ?_⟩
  obtain ⟨g, hg⟩ : ∃ g, cl[i]? = some g := ⟨_, List.getElem?_eq_getElem (by omega)⟩
  obtain ⟨f, hf, hlk⟩ := hget i g hg
  obtain ⟨c1, c2⟩ := c i g hg (by omega)
  rw [Nat.zero_add] at c1 c2
  refine ⟨g, ?_, c1, fun j hj => ?_⟩
  · rw [h2, find_deleteAll c2]
    have := filesF_find m.head cl 0 i g (by omega) hg
    rw [Nat.zero_add] at this
    unfold St.find
    rw [hfs]
    exact this
  · rcases hlk.get j hj with h3 | ⟨h3, h4⟩
    · left
      rw [h3, chunks_get l all i f h.ch hf, List.getElem?_take, if_pos (by omega), List.getElem?_drop]
    · right
      have := h.held i f hf
      exact ⟨by omega, h4⟩
attribute [local go_sem] fr_opt
structure DiskG (w0 w : World) (d : Nat) (g : Gh) (st : St) : Prop where
  disk : DiskAt w g st
  d : g.d = d
  chg : Chg (fun _ => False) w0 w
  low : ∀ k ∈ g.fp, w0.heap.size ≤ k
theorem DiskG.new {w0 w w' : World} {d : Nat} {g : Gh} {st : St} (h : DiskG w0 w d g st) (hc : Chg (fun _ => False) w w') : DiskG w0 w' d g st := ⟨h.disk.new hc, h.d, h.chg.trans hc (fun _ _ x => x), h.low⟩
theorem DiskG.of {w0 w : World} {b d : Nat} {g : Gh} {st : St} {m : RowM} (h : RowG w0 w b g st m) (hd : g.d = d) : DiskG w0 w d g st := ⟨h.disk, hd, h.chg, h.low⟩
theorem AgI.more {n n' : Nat} {m : RowM} {st : St} {l : List FileM} {all : List UInt8} {safe : Nat} (h : AgI n m st l all safe) (hn : n ≤ n') : AgI n' m st l all safe :=
  ⟨⟨h.calm.good.more hn, h.calm.lit, h.calm.down⟩, h.cap, h.head, h.fs, h.size, h.beg, h.end_, h.next, h.ch, h.app, h.tt, h.held, h.sl⟩
theorem AgI.names {n : Nat} {m : RowM} {st : St} {l : List FileM} {all : List UInt8} {safe : Nat} (h : AgI n m st l all safe) : ∀ p ∈ st.fs, p.1.size ≤ 1048576 := fun p hp => by
  rw [h.fs] at hp
  obtain ⟨j, f, _, _, _, rfl⟩ := filesF_mem m.head l 0 p hp
  have := h.head
  show (nameB m.head (16 * j)).size ≤ _
  rw [nameB_size]
  omega
end Go.Proofs.YtdnhgodfmjapmaaGreatDoor
