/-
  SegOpens: the disk and the law's map, as files are laid.
-/
import Derived.Test.YtgephceihkkokaaGreatDoorSOpsP
import Derived.Test.YtgephceihkkokaaGreatDoorMapK
import Derived.Lib.SliceRun
namespace Go.Proofs.YtgephceihkkokaaGreatDoor
open Go.RowKit Go.Deep
set_option linter.unusedVariables false
set_option linter.unusedSimpArgs false

def hH : ByteArray := ⟨#[104]⟩
noncomputable abbrev inK : KeyK Tryz.prog 3 Int := intKey Tryz.underlying3
theorem zero_int (w : World) : (zeroValue 3).run Tryz.prog w = .ok (intEl.ev 0) w := by kernel_rfl
/-- In the midst of it: the disk, the map. -/
structure OpI (w0 w : World) (d mb : Nat) (g : Gh) (st : St) (M : List (Int × Int)) (n k : Nat) : Prop where
  disk : DiskG w0 w d g st
  calm : Calm n st
  cap : st.cap = 65536
  size : st.size ≤ 20 * k
  nm : ∀ p ∈ st.fs, p.1.size ≤ 1048576
  map : MapK inK intEl w mb M
  out : mb ∉ g.fp
  low : w0.heap.size ≤ mb
  len : M.length ≤ k
theorem OpI.new {w0 w w' : World} {d mb : Nat} {g : Gh} {st : St} {M : List (Int × Int)} {n k : Nat} (h : OpI w0 w d mb g st M n k) (hc : Chg (fun _ => False) w w') : OpI w0 w' d mb g st M n k :=
  ⟨h.disk.new hc, h.calm, h.cap, h.size, h.nm, h.map.heap (hc.block mb h.map.lt (fun x => x)), h.out, h.low, h.len⟩
theorem OpI.more {w0 w : World} {d mb : Nat} {g : Gh} {st : St} {M : List (Int × Int)} {n n' k k' : Nat} (h : OpI w0 w d mb g st M n k) (hn : n ≤ n') (hk : k ≤ k') : OpI w0 w d mb g st M n' k' :=
  ⟨h.disk, h.calm.more hn, h.cap, Nat.le_trans h.size (Nat.mul_le_mul_left _ hk), h.nm, h.map, h.out, h.low, Nat.le_trans h.len hk⟩
theorem OpI.step {w0 w w' : World} {d mb : Nat} {g g' : Gh} {st st' : St} {M : List (Int × Int)} {n n' k k' : Nat} (h : OpI w0 w d mb g st M n k) (hd : DiskAt w' g' st') (ht : Gh.To w g g' w') (hc : Calm n' st') (hcap : st'.cap = 65536) (hs : st'.size ≤ 20 * k') (hnm : ∀ p ∈ st'.fs, p.1.size ≤ 1048576) (hk : k ≤ k') : OpI w0 w' d mb g' st' M n' k' := by
  have hsz := h.disk.chg.size
  refine ⟨⟨hd, ht.d.trans h.disk.d, h.disk.chg.trans ht.chg (fun i hi hx => ?_), fun q hq => ?_⟩, hc, hcap, hs, hnm, h.map.heap (ht.chg.block mb h.map.lt h.out), fun hx => ?_, h.low, Nat.le_trans h.len hk⟩
  · have := h.disk.low i hx
    omega
  · rcases ht.fp q hq with a | a
    · exact h.disk.low q a
    · omega
  · rcases ht.fp mb hx with a | a
    · exact h.out a
    · have := h.map.lt
      omega
/-- What Create leaves. -/
def CrTo (w0 : World) (d mb : Nat) (st : St) (nm : ByteArray) (M : List (Int × Int)) (n k : Nat) (e : Ending) (w' : World) : Prop := ∃ (c : Int) (g' : Gh), e = .returned (.int .i64 c) ∧ OpI w0 w' d mb g' (createS st nm) M (n + 1) k ∧ ((c = 0 ∧ st.find nm = none) ∨ ((c == 0) = false ∧ (st.find nm).isSome = true))
theorem createS_there {n : Nat} {st : St} (h : Calm n st) {nm : ByteArray} (hf : (st.find nm).isSome = true) : createS st nm = st ∧ createE st nm = 10 := by
  unfold createS createE
  rw [if_neg (by rw [h.down]; simp), if_pos hf, if_neg (by rw [h.down]; simp), if_pos hf]
  exact ⟨rfl, rfl⟩
theorem op_create {w0 w : World} {d mb : Nat} {g : Gh} {st : St} {M : List (Int × Int)} {n k : Nat} (h : OpI w0 w d mb g st M n k) (nm : ByteArray) (hl : nm.size ≤ 1000) (hn : n ≤ 1000) :
    Calls Tryz.prog 25 #[.pointer (some ⟨d, 0, none⟩), .string nm] w (CrTo w0 d mb st nm M n k) := by
  have hc := create_any g st nm w h.disk.disk (by unfold maxLen; omega) h.calm.good.fuse (by have := h.calm.good.len; omega)
  rw [h.disk.d] at hc
  refine hc.mono ?_
  rintro e w' ⟨rfl, g', hd, ht⟩
  cases hf : st.find nm with
  | none =>
    have e1 := h.calm.createS hf
    refine ⟨_, g', by rw [h.calm.createE hf], h.step hd ht (h.calm.create hf) (by rw [e1]; exact h.cap) (by rw [e1]; exact h.size) (fun p hp => ?_) (Nat.le_refl _), .inl ⟨rfl, hf⟩⟩
    rw [e1] at hp
    rcases List.mem_append.1 hp with hp | hp
    · exact h.nm p hp
    · rw [List.mem_singleton] at hp
      subst hp
      show nm.size ≤ _
      omega
  | some f =>
    have hs : (st.find nm).isSome = true := by rw [hf]; rfl
    obtain ⟨e1, e2⟩ := createS_there h.calm hs
    refine ⟨10, g', by rw [e2], ?_, .inr ⟨rfl, hs⟩⟩
    exact h.step hd ht (by rw [e1]; exact h.calm.more (by omega)) (by rw [e1]; exact h.cap) (by rw [e1]; exact h.size) (by rw [e1]; exact h.nm) (Nat.le_refl _)
theorem writeS_zero {n : Nat} {st : St} (h : Calm n st) {nm : ByteArray} {f : FileM} {s : ByteArray} (hf : st.find nm = some f) (hb : f.bytes = []) (h0 : s.size = 0) : writeS st nm 0 s = st := by
  unfold writeS
  rw [if_neg (by rw [h.down]; simp), hf]
  simp only
  have e1 : ¬ ((0 : Int) < 0 ∨ (f.bytes.length : Int) < 0) := by omega
  have e2 : ¬ (st.cap - st.size < more f (0 : Int).toNat s.size) := by unfold more; rw [h0]; omega
  rw [if_neg e1, if_neg e2, if_pos h.burnE, if_pos h0, h.burnS]
/-- What stands there behind a write to a new file. -/
structure Wrote (st st' : St) (nm : ByteArray) (l : Nat) (n : Nat) : Prop where
  calm : Calm (n + 1) st'
  cap : st'.cap = st.cap
  size : st'.size = st.size + l
  names : st'.fs.map (·.1) = st.fs.map (·.1)
  len : st'.len nm = l
  others : ∀ t, t ≠ nm → st'.len t = st.len t
theorem wrote {n : Nat} {st : St} (h : Calm n st) {nm : ByteArray} {f : FileM} (s : ByteArray) (hf : st.find nm = some f) (hb : f.bytes = []) (hm : s.size ≤ st.cap - st.size) : Wrote st (writeS st nm 0 s) nm s.size n := by
  have ho : ∀ t, t ≠ nm → (writeS st nm 0 s).len t = st.len t := fun t ht => by
    unfold St.len
    rw [find_write ht]
  by_cases h0 : s.size = 0
  · have e := writeS_zero h hf hb h0
    refine ⟨by rw [e]; exact h.more (by omega), by rw [e], by rw [e, h0]; rfl, by rw [e], ?_, ho⟩
    rw [e, h0]
    unfold St.len
    rw [hf]
    simp [hb]
  · have ha : (0 : Int) = f.bytes.length := by rw [hb]; rfl
    have e := h.writeS hf ha hm h0
    refine ⟨h.write hf ha hm h0, by rw [e], by rw [e], by rw [e]; exact names_setF _ _ _, ?_, ho⟩
    have hfs : (writeS st nm 0 s).find nm = some (addF f ⟨(st.turn : Int) + 1, (0 : Int).toNat, s⟩) := by
      rw [e]
      exact find_set_same (f := f) hf
    unfold St.len
    rw [hfs]
    show (putB f.bytes (0 : Int).toNat s.data.toList).length = _
    rw [putB_size _ _ _ h0, hb]
    simp
theorem op_write {w0 w : World} {d mb : Nat} {g : Gh} {st : St} {M : List (Int × Int)} {n k : Nat} (h : OpI w0 w d mb g st M n k) (nm : ByteArray) (hl : nm.size ≤ 1000) (hn : n ≤ 1000) (hk : k ≤ 20) {f : FileM} (s : ByteArray) (hs : s.size ≤ 20) (hf : st.find nm = some f) (hb : f.bytes = []) (hw : f.writes = []) :
    Calls Tryz.prog 26 #[.pointer (some ⟨d, 0, none⟩), .string nm, .int .i64 0, .string s] w (fun e w' => ∃ (c : Int) (g' : Gh), e = .returned (.int .i64 c) ∧ OpI w0 w' d mb g' (writeS st nm 0 s) M (n + 1) (k + 1)) := by
  have hsz := h.size
  have hcp := h.cap
  have hwr := wrote h.calm s hf hb (by omega)
  have hc := write_any g st nm 0 s w h.disk.disk (by unfold maxLen; omega) h.calm.good.fuse (by omega) (by omega) (by omega) (by have := h.calm.good.turn; omega) (fun f2 hf2 => by
    rw [hf] at hf2
    obtain rfl := Option.some.inj hf2
    rw [hb, hw]
    exact ⟨Nat.zero_le _, Nat.zero_le _⟩)
  rw [h.disk.d] at hc
  refine hc.mono ?_
  rintro e w' ⟨rfl, g', hd, ht⟩
  refine ⟨_, g', rfl, h.step hd ht hwr.calm (hwr.cap.trans hcp) (by rw [hwr.size]; omega) (fun p hp => ?_) (Nat.le_succ _)⟩
  have : p.1 ∈ (writeS st nm 0 s).fs.map (·.1) := List.mem_map_of_mem hp
  rw [hwr.names] at this
  obtain ⟨q, hq, e⟩ := List.mem_map.1 this
  rw [← e]
  exact h.nm q hq
/-- A new file stands in the map, too. -/
theorem has_put {st st' : St} {M : List (Int × Int)} {p l : Nat} (h : HasRel st hH M) (hp : p ≤ 99999999) (hno : nameB hH p ∉ st.fs.map (·.1)) (hnm : ∀ nm, nm ∈ st'.fs.map (·.1) ↔ (nm ∈ st.fs.map (·.1) ∨ nm = nameB hH p)) (hl : st'.len (nameB hH p) = l) (ho : ∀ t, t ≠ nameB hH p → st'.len t = st.len t) :
    HasRel st' hH (dropK M (p : Int) ++ [((p : Int), (l : Int))]) := by
  have hk : ∀ x ∈ M, x.1 ≠ (p : Int) := fun x hx e => by
    obtain ⟨a, l', rfl, ha, hn, _⟩ := (h.2 x).1 hx
    simp only at e
    obtain rfl : a = p := by omega
    exact hno hn
  have hd : dropK M (p : Int) = M := dropK_none (getK_not hk)
  rw [hd]
  refine ⟨?_, fun x => ?_⟩
  · rw [List.map_append, List.nodup_append]
    refine ⟨h.1, by simp, fun a ha b hb hab => ?_⟩
    obtain ⟨x, hx, rfl⟩ := List.mem_map.1 ha
    simp at hb
    exact hk x hx (hab.trans hb)
  · rw [List.mem_append, List.mem_singleton]
    constructor
    · rintro (hx | rfl)
      · obtain ⟨a, l', rfl, ha, hn, hl'⟩ := (h.2 x).1 hx
        have hne : nameB hH a ≠ nameB hH p := fun e => hno (e ▸ hn)
        exact ⟨a, l', rfl, ha, (hnm _).2 (.inl hn), by rw [ho _ hne]; exact hl'⟩
      · exact ⟨p, l, rfl, hp, (hnm _).2 (.inr rfl), hl.symm⟩
    · rintro ⟨a, l', rfl, ha, hn, hl'⟩
      rcases (hnm _).1 hn with hn | hn
      · left
        have hne : nameB hH a ≠ nameB hH p := fun e => hno (e ▸ hn)
        exact (h.2 _).2 ⟨a, l', rfl, ha, hn, by rw [hl', ho _ hne]⟩
      · right
        obtain rfl := nameB_inj hH ha hp hn
        rw [hl', hl]
/-- A file whose name tells no place. -/
theorem has_other {st st' : St} {M : List (Int × Int)} {nm0 : ByteArray} (h : HasRel st hH M) (hp : placeB hH nm0 = none) (hnm : ∀ nm, nm ∈ st'.fs.map (·.1) ↔ (nm ∈ st.fs.map (·.1) ∨ nm = nm0)) (ho : ∀ t, t ≠ nm0 → st'.len t = st.len t) : HasRel st' hH M := by
  have hne : ∀ a, a ≤ 99999999 → nameB hH a ≠ nm0 := fun a ha e => by
    have := place_name hH a ha
    rw [e, hp] at this
    cases this
  refine ⟨h.1, fun x => ?_⟩
  rw [h.2 x]
  constructor
  · rintro ⟨a, l, rfl, ha, hn, hl⟩
    exact ⟨a, l, rfl, ha, (hnm _).2 (.inl hn), by rw [ho _ (hne a ha)]; exact hl⟩
  · rintro ⟨a, l, rfl, ha, hn, hl⟩
    rcases (hnm _).1 hn with hn | hn
    · exact ⟨a, l, rfl, ha, hn, by rw [← ho _ (hne a ha)]; exact hl⟩
    · exact absurd hn (hne a ha)
/-- The names behind Create. -/
theorem created {n : Nat} {st : St} (h : Calm n st) (nm : ByteArray) : (∀ t, t ∈ (createS st nm).fs.map (·.1) ↔ (t ∈ st.fs.map (·.1) ∨ t = nm)) ∧ ∀ t, t ≠ nm → (createS st nm).len t = st.len t := by
  refine ⟨fun t => ?_, fun t ht => by unfold St.len; rw [find_create ht]⟩
  cases hf : st.find nm with
  | none =>
    rw [h.createS hf]
    simp
  | some f =>
    have hs : (st.find nm).isSome = true := by rw [hf]; rfl
    rw [(createS_there h hs).1]
    constructor
    · exact .inl
    · rintro (h1 | rfl)
      · exact h1
      · exact has_find.2 hs
theorem created_new {n : Nat} {st : St} (h : Calm n st) {nm : ByteArray} (hf : st.find nm = none) : (createS st nm).find nm = some emptyF := by
  rw [h.createS hf]
  unfold St.find
  rw [List.find?_append]
  unfold St.find at hf
  rw [Option.map_eq_none_iff] at hf
  rw [hf]
  simp
/-- 'string(make([]byte, n))'. -/
theorem makeZ (n : Nat) (hn : n ≤ 1000) : ∃ Z, (∀ W : World, (Instr.makeSlice 48 (.int .i64 n) (.int .i64 n)).run Tryz.prog W = .ok (.slice (some ⟨W.heap.size, 0, none⟩) n n) (W.alloc (.cells Z 5))) ∧
    ∀ W : World, (convert 48 9 (.slice (some ⟨W.heap.size, 0, none⟩) n n)).run Tryz.prog (W.alloc (.cells Z 5)) = .ok (.string ⟨(List.replicate n 0).toArray⟩) (W.alloc (.cells Z 5)) := by
  refine ⟨madeCells #[.int .u8 0] n, fun W => run_make_row' (P := Tryz.prog) 48 5 (.int .u8 0) 1 Tryz.underlying48 (by kernel_rfl) rfl .i64 .i64 n (by omega) (by omega) W, fun W => ?_⟩
  have h := World.rowIs_made W (.int .u8 0) n 5
  have hl : (List.replicate n (0 : UInt8)).length = n := List.length_replicate
  have h2 := run_convert_bytes_back (P := Tryz.prog) (W.alloc (.cells (madeCells #[.int .u8 0] n) 5)) 48 9 5 ⟨W.heap.size, 0, none⟩ n (List.replicate n 0) Tryz.underlying48 Tryz.underlying5 Tryz.underlying9 (fun j hj => by
    rw [List.length_replicate] at hj
    rw [add_none, Nat.zero_add, h.cell hj, List.getElem_replicate]
    rfl)
  rw [hl] at h2
  exact h2
end Go.Proofs.YtgephceihkkokaaGreatDoor
