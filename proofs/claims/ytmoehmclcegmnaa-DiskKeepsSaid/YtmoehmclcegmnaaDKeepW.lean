/-
  Two disks side by side; what DiskKeeps asks of them.
-/
import Derived.Test.YtmoehmclcegmnaaDKeepP
import Derived.Test.YtmoehmclcegmnaaDOps
import Derived.Test.YtmoehmclcegmnaaRefSame
import Derived.Sort.KeysCollected
namespace Go.Proofs.Ytmoehmclcegmnaa
open Go.RowKit Go.Deep

/-- Two disks, apart, both above where the call began. -/
structure Two (w0 w : World) (d1 d2 : Nat) (g1 g2 : Gh) (s1 s2 : St) : Prop where
  a : DiskAt w g1 s1
  b : DiskAt w g2 s2
  da : g1.d = d1
  db : g2.d = d2
  apart : ∀ k ∈ g1.fp, k ∉ g2.fp
  chg : Chg (fun _ => False) w0 w
  lowa : ∀ k ∈ g1.fp, w0.heap.size ≤ k
  lowb : ∀ k ∈ g2.fp, w0.heap.size ≤ k
theorem Two.new {w0 w w' : World} {d1 d2 : Nat} {g1 g2 : Gh} {s1 s2 : St} (h : Two w0 w d1 d2 g1 g2 s1 s2) (hc : Chg (fun _ => False) w w') : Two w0 w' d1 d2 g1 g2 s1 s2 :=
  ⟨h.a.new hc, h.b.new hc, h.da, h.db, h.apart, h.chg.trans hc (fun _ _ x => x), h.lowa, h.lowb⟩
theorem Two.swap {w0 w : World} {d1 d2 : Nat} {g1 g2 : Gh} {s1 s2 : St} (h : Two w0 w d1 d2 g1 g2 s1 s2) : Two w0 w d2 d1 g2 g1 s2 s1 :=
  ⟨h.b, h.a, h.db, h.da, fun k hk hx => h.apart k hx hk, h.chg, h.lowb, h.lowa⟩
theorem Two.step {w0 w w' : World} {d1 d2 : Nat} {g1 g2 g1' : Gh} {s1 s2 s1' : St} (h : Two w0 w d1 d2 g1 g2 s1 s2) (hd : DiskAt w' g1' s1') (ht : Gh.To w g1 g1' w') : Two w0 w' d1 d2 g1' g2 s1' s2 := by
  have hs := h.chg.size
  refine ⟨hd, h.b.other ht (fun k hk hx => h.apart k hx hk), ht.d.trans h.da, h.db, fun k hk hx => ?_, h.chg.trans ht.chg (fun i hi hx => ?_), fun k hk => ?_, h.lowb⟩
  · rcases ht.fp k hk with h1 | h1
    · exact h.apart k h1 hx
    · have := h.b.lt k hx
      omega
  · have := h.lowa i hx
    omega
  · rcases ht.fp k hk with h1 | h1
    · exact h.lowa k h1
    · omega
/-- A block of truths beside them. -/
structure Bl (w : World) (K : Nat) (g1 g2 : Gh) : Prop where
  cells : ∀ i, i < 200 → w.cell? ⟨K, i, none⟩ = some (.bool true)
  outa : K ∉ g1.fp
  outb : K ∉ g2.fp
  lt : K < w.heap.size
theorem Bl.bools {w : World} {K : Nat} {g1 g2 : Gh} (h : Bl w K g1 g2) : BoolsOf w (.slice (some ⟨K, 0, none⟩) 200 200) (List.replicate 200 true) :=
  ⟨some ⟨K, 0, none⟩, 200, by rw [List.length_replicate], .inr ⟨K, 0, rfl, fun i hi => by
    rw [List.length_replicate] at hi
    rw [Nat.zero_add, h.cells i hi, List.getD_eq_getElem?_getD, List.getElem?_replicate, if_pos hi]
    rfl⟩⟩
theorem Bl.step {w w' : World} {K : Nat} {g1 g2 g1' : Gh} (h : Bl w K g1 g2) (ht : Gh.To w g1 g1' w') : Bl w' K g1' g2 := by
  have hs := ht.chg.size
  refine ⟨fun i hi => ht.chg.cell (h.cells i hi) h.outa, fun hx => ?_, h.outb, by have := h.lt; omega⟩
  rcases ht.fp K hx with h1 | h1
  · exact h.outa h1
  · have := h.lt
    omega
theorem Bl.swap {w : World} {K : Nat} {g1 g2 : Gh} (h : Bl w K g1 g2) : Bl w K g2 g1 := ⟨h.cells, h.outb, h.outa, h.lt⟩
theorem Bl.new {w w' : World} {K : Nat} {g1 g2 : Gh} (h : Bl w K g1 g2) (hc : Chg (fun _ => False) w w') : Bl w' K g1 g2 :=
  ⟨fun i hi => hc.cell (h.cells i hi) (fun x => x), h.outa, h.outb, by have := hc.size; have := h.lt; omega⟩

/-! ### the calls -/
section
variable {w0 w : World} {d1 d2 : Nat} {g1 g2 : Gh} {s1 s2 : St}
theorem two_do {n : Nat} {o : OpM} {v0 : World} (h : Two w0 w d1 d2 g1 g2 s1 s2) (hk : KeepOk n s1) (hn : n ≤ 1048576) (h5 : o.kind ≤ 5) (hs : Small o) (hm : o.at_ ≤ 9223372036854775807 ∧ LowV v0 o.vn ∧ LowV v0 o.vk) (hw : v0.heap.size ≤ w0.heap.size)
    (hst : Strs w 0 o.vn o.names) (hbo : BoolsOf w o.vk o.bs) :
    Calls Try.prog 12 #[.pointer (some ⟨d1, 0, none⟩), o.val] w fun e w' => ∃ k : Int, e = .returned (.int .i64 k) ∧ ∃ g1', Two w0 w' d1 d2 g1' g2 (doS s1 o) s2 ∧ Gh.To w g1 g1' w' := by
  have hs' := hs
  obtain ⟨t1, t2, t3, t4, t5, t6⟩ := hs
  have hout : ∀ v, LowV v0 v → Out g1 v := fun v hl b of len cap hv h0 hb => by
    have h1 := hl b of len cap hv h0
    have h2 := h.lowa b hb
    omega
  have hc := do_any n g1 s1 o w h.a hk.good hn ⟨hst, hbo, hout _ hm.2.1, hout _ hm.2.2, by unfold maxLen; omega, by unfold maxLen; omega, by omega, fun t ht => by have := t6 t ht; unfold maxLen; omega, by omega, by omega, hm.1⟩
  rw [h.da] at hc
  refine hc.mono fun e w' hh => ?_
  unfold DoTo at hh
  rw [if_neg (by omega)] at hh
  obtain ⟨rfl, g', hd, ht⟩ := hh
  exact ⟨_, rfl, g', h.step hd ht, ht⟩
theorem two_same (h : Two w0 w d1 d2 g1 g2 s1 s2) (hs : SameSt s1 s2) (hm : ∀ p ∈ s1.fs, p.1.size ≤ 20) :
    Calls Try.prog 16 #[.pointer (some ⟨d1, 0, none⟩), .pointer (some ⟨d2, 0, none⟩)] w fun e w' => e = .returned (.bool true) ∧ Chg (fun _ => False) w w' := by
  have hc := same_any g1 g2 s1 s2 w h.a h.b hs (fun p hp => by have := hm p hp; unfold maxLen; omega)
  rw [h.da, h.db] at hc
  exact hc
theorem two_waits {n : Nat} (h : Two w0 w d1 d2 g1 g2 s1 s2) (hk : Good n s1) (hn : n ≤ 1048576) :
    Calls Try.prog 17 #[.pointer (some ⟨d1, 0, none⟩)] w fun e w' => e = .returned (.int .i64 s1.waits) ∧ Chg (fun _ => False) w w' := by
  have hc := waits_any g1 s1 w h.a (hk.waits hn)
  rw [h.da] at hc
  exact hc.mono fun e w' hh => ⟨hh.1, Chg.of_below hh.2⟩
theorem two_size (h : Two w0 w d1 d2 g1 g2 s1 s2) :
    Calls Try.prog 18 #[.pointer (some ⟨d1, 0, none⟩)] w fun e w' => e = .returned (.int .i64 s1.size) ∧ Chg (fun _ => False) w w' := by
  have hc := size_any g1 s1 w h.a
  rw [h.da] at hc
  exact hc.mono fun e w' hh => ⟨hh.1, hh.2 ▸ Chg.refl _ _⟩
theorem crash_pre {n : Nat} {bs : List Bool} {lack : Int} (h : DiskAt w g1 s1) (hg : Good n s1) : ∀ l : List WaitM, l.Perm (waitsOf g1.es) → Sorted l → (crashS s1 (imgs (g1.es.map skel) (cutLast (keepL l bs) lack))).size ≤ 1099511627776 := fun l hp _ => by
  have h1 := (hg.crash bs lack h hp).size
  have h2 : (crashS s1 (imgs (g1.es.map skel) (cutLast (keepL l bs) lack))).cap = s1.cap := rfl
  have h3 := hg.cap
  rw [h2] at h1
  exact Nat.le_trans h1 (by omega)
/-- All is kept. -/
def wholeS (st : St) : St := ⟨false, false, 0, st.cap, st.size, st.turn, st.fs.map whole⟩
theorem two_keep {n K : Nat} (h : Two w0 w d1 d2 g1 g2 s1 s2) (hk : KeepOk n s1) (hn : n ≤ 200) (hb : Bl w K g1 g2) :
    Calls Try.prog 15 #[.pointer (some ⟨d1, 0, none⟩), .agg #[.slice (some ⟨K, 0, none⟩) 200 200, .int .i64 0]] w fun e w' => e = .returned (.tuple #[]) ∧ ∃ g1', Two w0 w' d1 d2 g1' g2 (wholeS s1) s2 ∧ Bl w' K g1' g2 := by
  have hc := crash_any g1 s1 (.slice (some ⟨K, 0, none⟩) 200 200) (List.replicate 200 true) 0 w h.a hb.bools (hk.good.waits (by omega)) (by rw [List.length_replicate]; decide) (hk.good.allIn (by omega)) (crash_pre h.a hk.good)
  rw [h.da] at hc
  refine hc.mono ?_
  rintro e w' ⟨rfl, l, g', hp, hs, hd, ht⟩
  have hl : l.length ≤ 200 := by
    rw [hp.length_eq, waitsOf_length, waits_eq h.a]
    exact Nat.le_trans hk.waits hn
  rw [keepL_all l 200 hl, cutLast_zero, crash_all h.a hk hp hs] at hd
  exact ⟨rfl, g', h.step hd ht, hb.step ht⟩
/-- Nothing is kept. -/
def lostS (st : St) : St := ⟨false, false, 0, st.cap, (st.fs.map fun p => (loseF p.2).bytes.length).sum, st.turn, st.fs.map fun p => (p.1, loseF p.2)⟩
theorem two_lose {n K : Nat} (h : Two w0 w d1 d2 g1 g2 s1 s2) (hk : Good n s1) (hn : n ≤ 1048576) (hb : Bl w K g1 g2) :
    Calls Try.prog 15 #[.pointer (some ⟨d1, 0, none⟩), .agg #[.slice none 0 0, .int .i64 0]] w fun e w' => e = .returned (.tuple #[]) ∧ ∃ g1', Two w0 w' d1 d2 g1' g2 (lostS s1) s2 ∧ Bl w' K g1' g2 ∧ Good n (lostS s1) := by
  have he : ∀ l : List WaitM, imgs (g1.es.map skel) (cutLast (keepL l []) 0) = g1.es.map skel := fun l => by rw [keepL_nil]; rfl
  have hc := crash_any g1 s1 (.slice none 0 0) [] 0 w h.a ⟨none, 0, rfl, .inl rfl⟩ (hk.waits hn) (by decide) (hk.allIn (by omega)) (crash_pre h.a hk)
  rw [h.da] at hc
  refine hc.mono ?_
  rintro e w' ⟨rfl, l, g', hp, hs, hd, ht⟩
  have hg := hk.crash [] 0 h.a hp
  rw [he, crashS_skel h.a.fs] at hd hg
  exact ⟨rfl, g', h.step hd ht, hb.step ht, hg⟩
/-- Nothing waits. -/
theorem two_again {n K : Nat} (h : Two w0 w d1 d2 g1 g2 s1 s2) (hk : Good n s1) (hn : n ≤ 1048576) (hb : Bl w K g1 g2) (hw : ∀ p ∈ s1.fs, p.2.writes = []) :
    Calls Try.prog 15 #[.pointer (some ⟨d1, 0, none⟩), .agg #[.slice (some ⟨K, 0, none⟩) 200 200, .int .i64 0]] w fun e w' => e = .returned (.tuple #[]) ∧ ∃ g1', Two w0 w' d1 d2 g1' g2 (lostS s1) s2 ∧ Good n (lostS s1) := by
  have hc := crash_any g1 s1 (.slice (some ⟨K, 0, none⟩) 200 200) (List.replicate 200 true) 0 w h.a hb.bools (hk.waits hn) (by rw [List.length_replicate]; decide) (hk.allIn (by omega)) (crash_pre h.a hk)
  rw [h.da] at hc
  refine hc.mono ?_
  rintro e w' ⟨rfl, l, g', hp, hs, hd, ht⟩
  have h0 : waitsOf g1.es = [] := by
    unfold waitsOf
    rw [List.flatMap_eq_nil_iff]
    intro e he
    unfold waitsE1
    have := hw (nf e) (by rw [← h.a.fs]; exact List.mem_map_of_mem he)
    rw [show e.f.writes = [] from this]
    rfl
  rw [h0] at hp
  obtain rfl := hp.eq_nil
  have hg := hk.crash (l := []) (List.replicate 200 true) 0 h.a (by rw [h0])
  have he : imgs (g1.es.map skel) (cutLast (keepL [] (List.replicate 200 true)) 0) = g1.es.map skel := rfl
  rw [he, crashS_skel h.a.fs] at hd hg
  exact ⟨rfl, g', h.step hd ht, hg⟩

/-! ### what these states have -/
theorem find_map {fs : List (ByteArray × FileM)} (F : ByteArray × FileM → ByteArray × FileM) (hF : ∀ p, (F p).1 = p.1) (nm : ByteArray) : ((fs.map F).find? fun p => decide (p.1 = nm)) = (fs.find? fun p => decide (p.1 = nm)).map F := by
  rw [List.find?_map]
  congr 2
  funext p
  simp only [Function.comp, hF]
theorem same_self (st : St) : SameSt st st := ⟨rfl, fun nm f hf => ⟨f, hf, rfl⟩⟩
theorem same_whole (st : St) : SameSt (wholeS st) st := by
  refine ⟨by show (st.fs.map whole).length = _; rw [List.length_map], fun nm f hf => ?_⟩
  have h1 : ((st.fs.map whole).find? fun p => decide (p.1 = nm)).map (·.2) = some f := hf
  rw [find_map whole (fun _ => rfl)] at h1
  cases hq : st.fs.find? fun p => decide (p.1 = nm) with
  | none => rw [hq] at h1; cases h1
  | some p =>
    rw [hq] at h1
    have h2 : (whole p).2 = f := Option.some.inj h1
    refine ⟨p.2, by unfold St.find; rw [hq]; rfl, by rw [← h2]; rfl⟩
theorem waits_zero {st : St} (h : ∀ p ∈ st.fs, p.2.writes = []) : st.waits = 0 := by
  unfold St.waits
  obtain ⟨fs, hfs⟩ : ∃ fs, fs = st.fs := ⟨_, rfl⟩
  rw [← hfs] at h ⊢
  clear hfs
  induction fs with
  | nil => rfl
  | cons p l ih =>
    rw [List.map_cons, List.sum_cons, ih fun q hq => h q (List.mem_cons_of_mem _ hq), h p (List.mem_cons_self ..)]
    rfl
theorem lose_writes (f : FileM) : (loseF f).writes = [] := by
  unfold loseF
  split
  · rename_i h; exact h
  · rfl
theorem lose_none {f : FileM} (h : f.writes = []) : loseF f = f := by unfold loseF; rw [if_pos h]
theorem whole_waits (st : St) : (wholeS st).waits = 0 := waits_zero fun p hp => by
  obtain ⟨q, _, rfl⟩ := List.mem_map.1 (show p ∈ st.fs.map whole from hp)
  rfl
theorem lost_writes (st : St) : ∀ p ∈ (lostS st).fs, p.2.writes = [] := fun p hp => by
  obtain ⟨q, _, rfl⟩ := List.mem_map.1 (show p ∈ st.fs.map (fun p => (p.1, loseF p.2)) from hp)
  exact lose_writes _
theorem lost_size {n : Nat} {st : St} (h : Good n st) : (lostS st).size ≤ st.size := by
  rw [h.sum]
  have hf := h.files
  show (st.fs.map fun p => (loseF p.2).bytes.length).sum ≤ sumB st.fs
  unfold sumB
  obtain ⟨fs, hfs⟩ : ∃ fs, fs = st.fs := ⟨_, rfl⟩
  rw [← hfs] at hf ⊢
  clear hfs
  induction fs with
  | nil => exact Nat.le_refl _
  | cons p l ih =>
    rw [List.map_cons, List.map_cons, List.sum_cons, List.sum_cons]
    refine Nat.add_le_add ?_ (ih fun q hq => hf q (List.mem_cons_of_mem _ hq))
    unfold loseF
    split
    · exact Nat.le_refl _
    · exact (hf p (List.mem_cons_self ..)).image
theorem lost_again {n : Nat} {st : St} (h : Good n (lostS st)) : (lostS (lostS st)).size = (lostS st).size := by
  rw [h.sum]
  show ((lostS st).fs.map fun p => (loseF p.2).bytes.length).sum = sumB (lostS st).fs
  unfold sumB
  congr 1
  exact List.map_congr_left fun p hp => by rw [lose_none (lost_writes st p hp)]
theorem lost_names (st : St) : (lostS st).fs.map (·.1) = st.fs.map (·.1) := by
  show (st.fs.map fun p => (p.1, loseF p.2)).map (·.1) = _
  rw [List.map_map]
  rfl
theorem whole_names (st : St) : (wholeS st).fs.map (·.1) = st.fs.map (·.1) := by
  show (st.fs.map whole).map (·.1) = _
  rw [List.map_map]
  rfl
theorem whole_good {n : Nat} {st : St} (h : KeepOk n st) : Good n (wholeS st) := by
  refine ⟨⟨fun x => (by cases x), (by show (0 : Int) ≤ _; omega)⟩, h.good.cap, h.good.size, ?_, ?_, h.good.turn, ?_, fun p hp => ?_⟩
  · show st.size = sumB (st.fs.map whole)
    rw [h.good.sum]
    unfold sumB
    rw [List.map_map]
    rfl
  · rw [whole_names]; exact h.good.names
  · show (st.fs.map whole).length ≤ n
    rw [List.length_map]; exact h.good.len
  · obtain ⟨q, _, rfl⟩ := List.mem_map.1 (show p ∈ st.fs.map whole from hp)
    exact ⟨rfl, Nat.le_refl _, fun x hx => (by cases hx), Nat.zero_le _⟩

/-- The names, rising. -/
def sortedN (st : St) : List ByteArray := ((st.fs.map fun p => p.1.data.toList).mergeSort fun x y => decide (x ≤ y)).map fun l => ⟨l.toArray⟩
theorem two_list {n : Nat} (h : Two w0 w d1 d2 g1 g2 s1 s2) (hk : Good n s1) (hn : n ≤ 1048576) :
    Calls Try.prog 20 #[.pointer (some ⟨d1, 0, none⟩), .string ⟨#[]⟩] w fun e w' => ∃ v, e = .returned v ∧ Strs w' 0 v (sortedN s1) ∧ Chg (fun _ => False) w w' := by
  have hc := list_any g1 s1 ⟨#[]⟩ w h.a (by have := hk.len; omega)
  rw [h.da] at hc
  refine hc.mono ?_
  rintro e w' ⟨v, vis, rfl, hp, ho, hb⟩
  refine ⟨v, rfl, ?_, Chg.of_below hb⟩
  have h1 : begins ⟨#[]⟩ vis = vis.map fun e => e.name.data.toList := by
    unfold begins
    rw [List.filter_eq_self.2 (fun e _ => by simp [Lib.hasPrefix])]
  have h2 : (begins ⟨#[]⟩ vis).mergeSort (fun x y => decide (x ≤ y)) = (s1.fs.map fun p => p.1.data.toList).mergeSort fun x y => decide (x ≤ y) := by
    refine mergeSort_of_perm ?_
    rw [h1, ← h.a.fs, List.map_map]
    exact hp.map _
  have hl : (begins ⟨#[]⟩ vis).length = (sortedN s1).length := by
    unfold sortedN
    rw [List.length_map, ← h2, List.length_mergeSort]
  rw [h2, hl] at ho
  have he : ((s1.fs.map fun p => p.1.data.toList).mergeSort fun x y => decide (x ≤ y)).map encStr = (sortedN s1).map Value.string := by
    unfold sortedN
    rw [List.map_map]
    rfl
  rw [he] at ho
  rcases ho.2 with ⟨e1, h0⟩ | ⟨g', cap, cur, e1, _, hg, h3, h4, h5, h6⟩
  · exact ⟨none, 0, by rw [e1, h0], .inl (List.length_eq_zero_iff.1 h0)⟩
  · refine ⟨_, _, e1, .inr ⟨g', 0, rfl, Nat.zero_le _, fun i hi => ?_⟩⟩
    rw [Nat.mul_one] at h6
    have h7 : (cur.toList.take (sortedN s1).length)[i]? = ((sortedN s1).map Value.string)[i]? := by rw [h6]
    rw [List.getElem?_take, if_pos hi, Array.getElem?_toList, List.getElem?_map, List.getElem?_eq_getElem hi] at h7
    simp [World.cell?, hg, h7, List.getD_eq_getElem?_getD, List.getElem?_eq_getElem hi]
theorem sortedN_eq {a b : St} (h : a.fs.map (·.1) = b.fs.map (·.1)) : sortedN a = sortedN b := by
  unfold sortedN
  have e : ∀ fs : List (ByteArray × FileM), (fs.map fun p => p.1.data.toList) = (fs.map (·.1)).map fun n => n.data.toList := fun fs => by rw [List.map_map]; rfl
  rw [e, e, h]
theorem sortedN_length (st : St) : (sortedN st).length = st.fs.length := by
  unfold sortedN
  rw [List.length_map, List.length_mergeSort, List.length_map]
end
end Go.Proofs.Ytmoehmclcegmnaa
