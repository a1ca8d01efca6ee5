/- A part. -/
import Derived.Test.YtemimmnamajooaaGreatOpl30
import Derived.Test.YtemimmnamajooaaGreatOpl31
set_option linter.unusedVariables false
set_option linter.unusedSimpArgs false
namespace Go.Proofs.YtemimmnamajooaaGreat
open Go.RowKit Go.Deep
def Unlike (xs : OL) : Prop := xs.Pairwise fun a b => ¬ sameK a b
theorem OI.far {S : Nat → Prop} {w w' : World} {g : Gh} {st : St} {ob : Nat} {v : Value} {l : OL} (h : OI w g st ob v l) (hc : Chg S w w') (hn : ∀ k, OS g ob v k → ¬ S k) : OI w' g st ob v l :=
  ⟨h.disk.chg hc (fun k hk => hn k (.inl hk)), ⟨h.head.at_.chg hc (hn ob (.inr (.inl rfl))), h.head.row.chg hc (fun k hk => hn k (.inr (.inr hk)))⟩, h.outT, h.outV⟩
theorem OI.lt {w : World} {g : Gh} {st : St} {ob : Nat} {v : Value} {l : OL} (h : OI w g st ob v l) : ∀ k, OS g ob v k → k < w.heap.size := fun k hk => by
  rcases hk with hk | hk | hk
  · exact h.disk.lt k hk
  · rw [hk]; exact h.head.at_.lt
  · exact h.head.row.lt k hk
structure Two (w0 w : World) (ga gb : Gh) (sa sb : St) (oa ob : Nat) (va vb : Value) (la lb : OL) : Prop where
  a : NI w0 w ga sa oa va la
  b : NI w0 w gb sb ob vb lb
  ap : ∀ k, OS ga oa va k → ¬ OS gb ob vb k
theorem Two.swap {w0 w : World} {ga gb : Gh} {sa sb : St} {oa ob : Nat} {va vb : Value} {la lb : OL} (h : Two w0 w ga gb sa sb oa ob va vb la lb) : Two w0 w gb ga sb sa ob oa vb va lb la := ⟨h.b, h.a, fun k hk hk2 => h.ap k hk2 hk⟩
theorem Two.new {w0 w w' : World} {ga gb : Gh} {sa sb : St} {oa ob : Nat} {va vb : Value} {la lb : OL} (h : Two w0 w ga gb sa sb oa ob va vb la lb) (hc : Chg (fun _ => False) w w') : Two w0 w' ga gb sa sb oa ob va vb la lb := ⟨h.a.new hc, h.b.new hc, h.ap⟩
theorem Two.left {w0 w w' : World} {ga gb ga' : Gh} {sa sb sa' : St} {oa ob : Nat} {va vb va' : Value} {la lb la' : OL} (h : Two w0 w ga gb sa sb oa ob va vb la lb) (h' : NI w0 w' ga' sa' oa va' la') (ht : OTo ga ga' oa va va' w w') : Two w0 w' ga' gb sa' sb oa ob va' vb la' lb := by
  have hb := h.b.oi.far ht.chg (fun k hk hs => h.ap k hs hk)
  have hz := h.b.chg.size
  refine ⟨h', ⟨hb, h.b.chg.trans ht.chg (fun i hi hx => by have := h.a.low i hx; omega), h.b.low⟩, fun k hk hk2 => ?_⟩
  have hlt := h.b.oi.lt k hk2
  rcases hk with hk | hk | hk
  · rcases ht.fp k hk with e | e
    · exact h.ap k (.inl e) hk2
    · omega
  · exact h.ap k (.inr (.inl hk)) hk2
  · rcases ht.own k hk with e | e
    · exact h.ap k (.inr (.inr e)) hk2
    · omega
theorem Two.right {w0 w w' : World} {ga gb gb' : Gh} {sa sb sb' : St} {oa ob : Nat} {va vb vb' : Value} {la lb lb' : OL} (h : Two w0 w ga gb sa sb oa ob va vb la lb) (h' : NI w0 w' gb' sb' ob vb' lb') (ht : OTo gb gb' ob vb vb' w w') : Two w0 w' ga gb' sa sb' oa ob va vb' la lb' := (h.swap.left h' ht).swap
structure Rel (l nw : OL) : Prop where
  mem : ∀ z, z ∈ nw ↔ z ∈ l
  len : nw.length = l.length
  un : Unlike nw
theorem Rel.self {l : OL} (h : Rising l) : Rel l l := ⟨fun _ => Iff.rfl, rfl, h.imp fun h => oLess_ne h⟩
theorem Rel.agree {l nw : OL} (h : Rel l nw) (hr : Rising l) : Agree l nw := by
  refine ⟨h.len.symm, fun x hx => ?_⟩
  rcases findO_spec nw x with ⟨_, h2⟩ | ⟨j, y, h1, h2, h3⟩
  · exact absurd (sameK.refl x) (h2 x ((h.mem x).2 hx))
  · exact ⟨j, y, h1, h2, by rw [rising_key hr ((h.mem y).1 (List.mem_of_getElem? h2)) hx h3]⟩
theorem Rel.find {l nw : OL} (h : Rel l nw) (hr : Rising l) (x : OfM) : (findO nw x = -1 ∧ getO l x.g x.t x.q = 0 ∧ hasO l x = false ∧ ∀ y ∈ nw, ¬ sameK y x) ∨ ∃ (j : Nat) (y : OfM), findO nw x = (j : Int) ∧ nw[j]? = some y ∧ getO l x.g x.t x.q = y.a ∧ hasO l x = true ∧ sameK y x := by
  rcases findO_spec nw x with ⟨h1, h2⟩ | ⟨j, y, h1, h2, h3⟩
  · refine .inl ⟨h1, getO_none hr fun y hy e => h2 y ((h.mem y).2 hy) ⟨e.1, e.2.1, e.2.2⟩, ?_, h2⟩
    rw [Bool.eq_false_iff]
    intro hh
    obtain ⟨y, a, b⟩ := (hasO_iff hr).1 hh
    exact h2 y ((h.mem y).2 a) b
  · have hy := (h.mem y).1 (List.mem_of_getElem? h2)
    exact .inr ⟨j, y, h1, h2, getO_mem hr hy ⟨h3.1, h3.2.1, h3.2.2⟩, (hasO_iff hr).2 ⟨y, hy, h3⟩, h3⟩
theorem Rel.add {l nw : OL} {x : OfM} (h : Rel l nw) (hr : Rising l) (hz : osE l x = 0) (hn : ∀ y ∈ nw, ¬ sameK y x) (hh : hasO l x = false) : Rel (osL l x) (nw ++ [x]) := by
  have e : osL l x = putO l x := by unfold osL; rw [if_pos hz]
  rw [e]
  refine ⟨fun z => ?_, ?_, ?_⟩
  · rw [mem_putO hr, List.mem_append, List.mem_singleton, h.mem]
    constructor
    · rintro (a | a)
      · exact .inr ⟨a, hn z ((h.mem z).2 a)⟩
      · exact .inl a
    · rintro (a | ⟨a, _⟩)
      · exact .inr a
      · exact .inl a
  · rw [putO_len, hh, if_neg (by simp), List.length_append, h.len]; rfl
  · exact List.pairwise_append.2 ⟨h.un, List.pairwise_singleton _ _, fun y hy z hz2 => by rw [List.mem_singleton.1 hz2]; exact hn y hy⟩
theorem unlike_at {xs : OL} (h : Unlike xs) {i j : Nat} {a b : OfM} (hi : xs[i]? = some a) (hj : xs[j]? = some b) (hne : i ≠ j) : ¬ sameK a b := by
  obtain ⟨h1, e1⟩ := List.getElem?_eq_some_iff.1 hi
  obtain ⟨h2, e2⟩ := List.getElem?_eq_some_iff.1 hj
  rcases Nat.lt_or_gt_of_ne hne with e | e
  · rw [← e1, ← e2]; exact List.pairwise_iff_getElem.1 h i j h1 h2 e
  · rw [← e1, ← e2]; exact fun hs => List.pairwise_iff_getElem.1 h j i h2 h1 e hs.symm
theorem Rel.put {l nw : OL} {x y : OfM} {j : Nat} (h : Rel l nw) (hr : Rising l) (hz : osE l x = 0) (hj : nw[j]? = some y) (hk : sameK y x) (hh : hasO l x = true) : Rel (osL l x) (nw.set j x) := by
  have e : osL l x = putO l x := by unfold osL; rw [if_pos hz]
  have hjl := (List.getElem?_eq_some_iff.1 hj).1
  rw [e]
  have hset : ∀ i z, (nw.set j x)[i]? = some z ↔ (i = j ∧ z = x) ∨ (i ≠ j ∧ nw[i]? = some z) := fun i z => by
    rw [List.getElem?_set]
    by_cases hij : j = i
    · subst hij
      simp [hjl, eq_comm]
    · rw [if_neg hij]
      constructor
      · intro a; exact .inr ⟨fun e => hij e.symm, a⟩
      · rintro (⟨a, _⟩ | ⟨_, a⟩)
        · exact absurd a.symm hij
        · exact a
  refine ⟨fun z => ?_, ?_, ?_⟩
  · rw [mem_putO hr]
    constructor
    · intro hz2
      obtain ⟨i, hi⟩ := List.mem_iff_getElem?.1 hz2
      rcases (hset i z).1 hi with ⟨_, a⟩ | ⟨a, b⟩
      · exact .inl a
      · refine .inr ⟨(h.mem z).1 (List.mem_of_getElem? b), fun hs => unlike_at h.un b hj a (hs.trans hk.symm)⟩
    · rintro (a | ⟨a, b⟩)
      · exact List.mem_iff_getElem?.2 ⟨j, (hset j z).2 (.inl ⟨rfl, a⟩)⟩
      · obtain ⟨i, hi⟩ := List.mem_iff_getElem?.1 ((h.mem z).2 a)
        refine List.mem_iff_getElem?.2 ⟨i, (hset i z).2 (.inr ⟨fun e => ?_, hi⟩)⟩
        subst e
        rw [hj] at hi
        injection hi with hi
        exact b (hi ▸ hk)
  · rw [putO_len, hh, if_pos rfl, List.length_set, h.len]
  · refine List.pairwise_iff_getElem.2 fun i k hi hk2 hik hs => ?_
    have gi := (hset i _).1 (List.getElem?_eq_getElem hi)
    have gk := (hset k _).1 (List.getElem?_eq_getElem hk2)
    rcases gi with ⟨a, b⟩ | ⟨a, b⟩
    · rcases gk with ⟨c, d⟩ | ⟨c, d⟩
      · omega
      · rw [b] at hs
        exact unlike_at h.un hj d (fun e => c e.symm) (hk.trans hs)
    · rcases gk with ⟨c, d⟩ | ⟨c, d⟩
      · rw [d] at hs
        exact unlike_at h.un b hj a (hs.trans hk.symm)
      · exact unlike_at h.un b d (by omega) hs
theorem osE_law {l nw : OL} {x : OfM} (h : Rel l nw) (hl : OOk l) : osE l x = if offE x ≠ 0 then offE x else if hasO l x = true then 0 else if nw.length = 64 then 6 else 0 := by
  unfold osE
  have e : (64 ≤ l.length) ↔ nw.length = 64 := by have := h.len; have := hl.len; omega
  simp only [e]
theorem osL_bad {l : OL} {x : OfM} (h : osE l x ≠ 0) : osL l x = l := by unfold osL; rw [if_neg h]
theorem burn_cases (st : St) : (burnE st = 0 ∧ (burnS st).down = st.down) ∨ (burnE st = 8 ∧ (burnS st).down = true) := by
  unfold burnE burnS
  by_cases h : st.lit = true
  · by_cases h2 : st.left = 0
    · right; simp [h, h2]
    · left; simp [h, h2]
  · left; simp [h]
def Ok8 (e : Int) (st : St) : Prop := (e = 0 ∧ st.down = false) ∨ (e = 8 ∧ st.down = true)
theorem rem_down {st : St} (f : ByteArray) (h : st.down = true) : remE st f = 8 ∧ remS st f = st := by
  have e : readyE st [f] = 8 := by rw [readyE_one, if_pos h]
  unfold remE remS deleteE deleteS
  rw [e]
  simp
theorem rem_step {st : St} (f : ByteArray) (h : st.down = false) : Ok8 (remE st f) (remS st f) := by
  by_cases hf : (st.find f).isSome = true
  · have e : readyE st [f] = 0 := by rw [readyE_one, h, hf]; rfl
    unfold remE remS deleteE deleteS
    rw [e]
    rcases burn_cases st with ⟨a, b⟩ | ⟨a, b⟩
    · rw [a]
      exact .inl ⟨by simp, by simpa [deleteAll, removeS] using b.trans h⟩
    · rw [a]
      exact .inr ⟨by simp, by simpa using b⟩
  · have e : readyE st [f] = 9 := by rw [readyE_one, h, if_neg (by simp), if_neg hf]
    unfold remE remS deleteE deleteS
    rw [e]
    exact .inl ⟨by simp, by simpa using h⟩
theorem create_step {st : St} (f : ByteArray) (h : st.down = false) (hf : st.find f = none) : Ok8 (createE st f) (createS st f) := by
  unfold createE createS
  rw [if_neg (by rw [h]; simp), if_neg (by rw [hf]; simp), if_neg (by rw [h]; simp), if_neg (by rw [hf]; simp)]
  rcases burn_cases st with ⟨a, b⟩ | ⟨a, b⟩
  · rw [a, if_pos rfl]; exact .inl ⟨rfl, b.trans h⟩
  · rw [a, if_neg (by decide)]; exact .inr ⟨rfl, b⟩
theorem write_step {st : St} (f b : ByteArray) (h : st.down = false) (hf : st.find f = some emptyF) (hb : b.size ≠ 0) (hr : b.size ≤ st.cap - st.size) : Ok8 (writeE st f 0 b) (writeS st f 0 b) := by
  have hmo : more emptyF (0 : Int).toNat b.size = b.size := by unfold more emptyF; simp
  unfold writeE writeS
  rw [if_neg (by rw [h]; simp), hf, if_neg (by rw [h]; simp)]
  simp only
  rw [if_neg (by simp [emptyF]), if_neg (by rw [hmo]; omega), if_neg (by simp [emptyF]), if_neg (by rw [hmo]; omega)]
  rcases burn_cases st with ⟨a, b2⟩ | ⟨a, b2⟩
  · rw [a, if_pos rfl, if_neg hb]; exact .inl ⟨rfl, b2.trans h⟩
  · rw [a, if_neg (by decide)]; exact .inr ⟨rfl, b2⟩
theorem sync1_down (st : St) (f : ByteArray) : (sync1 st f).down = st.down := by unfold sync1; split <;> rfl
theorem sync_step {st : St} (f : ByteArray) (h : st.down = false) (hf : (st.find f).isSome = true) : Ok8 (syncE st [f]) (syncS st [f]) := by
  have e : readyE st [f] = 0 := by rw [readyE_one, h, hf]; rfl
  unfold syncE deleteE syncS
  rw [e]
  rcases burn_cases st with ⟨a, b⟩ | ⟨a, b⟩
  · rw [a]
    refine .inl ⟨by simp, ?_⟩
    simp only [if_true]
    show (sync1 (burnS st) f).down = false
    rw [sync1_down]; exact b.trans h
  · rw [a]; exact .inr ⟨by simp, by simpa using b⟩
theorem rename_step {st : St} (f nm : ByteArray) {F : FileM} (h : st.down = false) (hf : st.find f = some F) (hne : f ≠ nm) : Ok8 (renameE st f) (renameS st f nm) := by
  unfold renameE renameS
  rw [if_neg (by rw [h]; simp), hf, if_neg (by rw [h]; simp)]
  simp only
  rcases burn_cases st with ⟨a, b⟩ | ⟨a, b⟩
  · rw [a, if_pos rfl, if_neg hne]; exact .inl ⟨rfl, b.trans h⟩
  · rw [a, if_neg (by decide)]; exact .inr ⟨rfl, b⟩
theorem fail_at {st : St} {f nm b : ByteArray} (k : Nat) (hk : k < 5) (h0 : ∀ j, j < k → svE st f nm b j = 0) (hb : svE st f nm b k = 8) (hd : (svS st f nm b (k + 1)).down = true) : saveE st f nm b = 8 ∧ (saveS st f nm b).down = true := by
  have hK : svK (svE st f nm b) = k := svK_at _ k h0 hk (by rw [hb]; decide)
  have e1 : fstE st f nm b = 8 := by unfold fstE; rw [hK, hb]
  have e2 : fstS st f nm b = svS st f nm b (k + 1) := by unfold fstS; rw [hK]
  obtain ⟨a, c⟩ := rem_down f (st := fstS st f nm b) (by rw [e2]; exact hd)
  unfold saveE saveS
  rw [e1, if_neg (by decide), if_pos (by rw [a]; decide), a, if_neg (by decide), c, e2]
  exact ⟨rfl, hd⟩
theorem all_ok {st : St} {f nm b : ByteArray} (h0 : ∀ j, j < 5 → svE st f nm b j = 0) (hd : (sv5 st f nm b).down = false) : saveE st f nm b = 0 ∧ (saveS st f nm b).down = false := by
  have hK : svK (svE st f nm b) = 5 := svK_all _ h0
  have e1 : fstE st f nm b = 0 := by unfold fstE; rw [hK]; rfl
  have e2 : fstS st f nm b = sv5 st f nm b := by unfold fstS; rw [hK]; rfl
  unfold saveE saveS
  rw [if_pos e1, if_pos e1, e2]
  exact ⟨rfl, hd⟩
def OnlyN (st : St) : Prop := ∀ a, a ≠ grpF → a ≠ freshB grpF → st.find a = none
theorem find_of_mem {st : St} {p : ByteArray × FileM} (hp : p ∈ st.fs) : st.find p.1 ≠ none := by
  intro h
  exact find_none_names h (List.mem_map_of_mem hp)
theorem size_small {n : Nat} {st : St} (hg : Good n st) (ho : ∀ a, a ≠ grpF → st.find a = none) (hF : ∀ F, st.find grpF = some F → F.bytes.length ≤ 2245) : st.size ≤ 2245 := by
  have hall : ∀ p ∈ st.fs, p.1 = grpF := fun p hp => by
    by_cases h : p.1 = grpF
    · exact h
    · exact absurd (ho p.1 h) (find_of_mem hp)
  rw [hg.sum]
  have hnd := hg.names
  unfold sumB
  match hfs : st.fs with
  | [] => simp
  | [p] =>
    have hp := hall p (by rw [hfs]; simp)
    have hf : st.find grpF = some p.2 := by
      unfold St.find
      rw [hfs]
      simp [hp]
    simpa using hF p.2 hf
  | p :: q :: r =>
    rw [hfs] at hnd hall
    have h1 := hall p (by simp)
    have h2 := hall q (by simp)
    simp [h1, h2] at hnd
theorem create_size (st : St) (f : ByteArray) : (createS st f).size = st.size := by
  unfold createS
  split
  · rfl
  · split
    · rfl
    · split
      · show (burnS st).size = _; unfold burnS; split <;> (try split) <;> rfl
      · unfold burnS; split <;> (try split) <;> rfl
theorem flush_fuse {n : Nat} {st : St} {l LS : OL} (hg : Good n st) (ho : OnlyN st) (hcap : st.cap = 65536) (hl : OOk l) (hs : SavedO st LS) (hls : OOk LS) :
    (saveE st (freshB grpF) grpF (sealO l) = 0 ∧ (saveS st (freshB grpF) grpF (sealO l)).down = false ∧ SavedO (saveS st (freshB grpF) grpF (sealO l)) l) ∨
    (saveE st (freshB grpF) grpF (sealO l) = 8 ∧ (saveS st (freshB grpF) grpF (sealO l)).down = true ∧ SavedO (saveS st (freshB grpF) grpF (sealO l)) LS) := by
  obtain ⟨b, hb⟩ : ∃ b, b = sealO l := ⟨_, rfl⟩
  have hbl := sealO_len hl
  rw [← hb] at hbl ⊢
  have hkeep : saveE st (freshB grpF) grpF b ≠ 0 → SavedO (saveS st (freshB grpF) grpF b) LS := fun he => by
    have h := saveS_old (nm := grpF) (b := b) grpF_ne he
    rcases hs with ⟨a, c⟩ | ⟨F, a, c, d⟩
    · exact .inl ⟨a, h.trans c⟩
    · exact .inr ⟨F, h.trans a, c, d⟩
  suffices key : (saveE st (freshB grpF) grpF b = 8 ∧ (saveS st (freshB grpF) grpF b).down = true) ∨ (saveE st (freshB grpF) grpF b = 0 ∧ (saveS st (freshB grpF) grpF b).down = false) by
    rcases key with h | h
    · exact .inr ⟨h.1, h.2, hkeep (by rw [h.1]; decide)⟩
    · exact .inl ⟨h.1, h.2, .inr (by rw [hb] at h ⊢; exact saveS_new (by rw [← hb]; omega) grpF_ne h.1)⟩
  cases hdn : st.down with
  | true =>
    obtain ⟨a, c⟩ := rem_down (freshB grpF) hdn
    exact .inl (fail_at 0 (by decide) (fun j hj => by omega) a (by show (remS st (freshB grpF)).down = true; rw [c]; exact hdn))
  | false =>
    rcases rem_step (freshB grpF) hdn with ⟨a0, d0⟩ | ⟨a0, d0⟩
    · have n1 : (sv1 st (freshB grpF)).find (freshB grpF) = none := remE_zero a0
      have o1 : ∀ a, a ≠ grpF → (sv1 st (freshB grpF)).find a = none := fun a ha => by
        by_cases h : a = freshB grpF
        · rw [h]; exact n1
        · exact (remS_find h).trans (ho a ha h)
      have g1 : Good (n + 2) (sv1 st (freshB grpF)) := svS_good hg (freshB grpF) grpF b 1
      have z1 : (sv1 st (freshB grpF)).size ≤ 2245 := size_small g1 o1 (fun F hF => by
        have hF2 : st.find grpF = some F := (remS_find grpF_ne).symm.trans hF
        rcases hs with ⟨_, c⟩ | ⟨F2, c, d, _⟩
        · rw [c] at hF2; cases hF2
        · rw [c] at hF2
          injection hF2 with hF2
          rw [← hF2, d, text_len]
          exact (sealO_len hls).1)
      rcases create_step (freshB grpF) d0 n1 with ⟨a1, d1⟩ | ⟨a1, d1⟩
      · have n2 : (sv2 st (freshB grpF)).find (freshB grpF) = some emptyF := createE_zero n1 a1
        have c2 : (sv2 st (freshB grpF)).cap = 65536 := (svS_cap st (freshB grpF) grpF b 2).trans hcap
        have z2 : (sv2 st (freshB grpF)).size ≤ 2245 := by unfold sv2; rw [create_size]; exact z1
        rcases write_step (freshB grpF) b d1 n2 (by omega) (by show b.size ≤ (sv2 st (freshB grpF)).cap - (sv2 st (freshB grpF)).size; omega) with ⟨a2, d2⟩ | ⟨a2, d2⟩
        · have n3 := writeE_zero (b := b) (by omega) n2 a2
          rcases sync_step (freshB grpF) d2 (by show ((sv3 st (freshB grpF) b).find (freshB grpF)).isSome = true; unfold sv3; rw [n3]; rfl) with ⟨a3, d3⟩ | ⟨a3, d3⟩
          · have n4 := syncE_zero n3 a3
            rcases rename_step (freshB grpF) grpF d3 n4 grpF_ne.symm with ⟨a4, d4⟩ | ⟨a4, d4⟩
            · refine .inr (all_ok (fun j hj => ?_) d4)
              rcases (show j = 0 ∨ j = 1 ∨ j = 2 ∨ j = 3 ∨ j = 4 by omega) with rfl | rfl | rfl | rfl | rfl
              · exact a0
              · exact a1
              · exact a2
              · exact a3
              · exact a4
            · refine .inl (fail_at 4 (by decide) (fun j hj => ?_) a4 d4)
              rcases (show j = 0 ∨ j = 1 ∨ j = 2 ∨ j = 3 by omega) with rfl | rfl | rfl | rfl
              · exact a0
              · exact a1
              · exact a2
              · exact a3
          · refine .inl (fail_at 3 (by decide) (fun j hj => ?_) a3 d3)
            rcases (show j = 0 ∨ j = 1 ∨ j = 2 by omega) with rfl | rfl | rfl
            · exact a0
            · exact a1
            · exact a2
        · refine .inl (fail_at 2 (by decide) (fun j hj => ?_) a2 d2)
          rcases (show j = 0 ∨ j = 1 by omega) with rfl | rfl
          · exact a0
          · exact a1
      · refine .inl (fail_at 1 (by decide) (fun j hj => ?_) a1 d1)
        obtain rfl : j = 0 := by omega
        exact a0
    · exact .inl (fail_at 0 (by decide) (fun j hj => by omega) a0 d0)
theorem saveS_only {st : St} (ho : OnlyN st) (b : ByteArray) : OnlyN (saveS st (freshB grpF) grpF b) := fun a h1 h2 => (saveS_find h2 h1).trans (ho a h1 h2)
theorem app_arg {w : World} {u v : Value} {a b : OL} (h : ORow w u a) (hv : OArg w v b) (hl : a.length + b.length ≤ 1000) (ty : TypeId) :
    ∃ v' w', (Builtin.append_ #[30, 30] ty #[u, v]).run Tryz.prog w = .ok v' w' ∧ ORow w' v' (a ++ b) ∧ w.grownBy w' u.ownBlock ∧ (v'.ownBlock = u.ownBlock ∨ v'.ownBlock = some w.heap.size) := by
  obtain ⟨i0, hi, hz0, hz1, hz2⟩ := oinfo_parts info_off
  obtain ⟨ad, cap, rfl, hc, hb⟩ := hv
  rcases hb with rfl | ⟨bb, o, rfl, hb⟩
  · refine ⟨u, w, ?_, by rw [List.append_nil]; exact h, grownBy_refl _ _, .inl rfl⟩
    obtain ⟨p, c, rfl⟩ := h.len
    have h63 : a.length ≤ c := by
      rcases h.form with ⟨e, e2⟩ | ⟨g, c2, e, _, h3, _⟩
      · rw [e2]; exact Nat.zero_le _
      · injection e with _ _ e3; rw [e3]; exact h3
    have hle : (a.length : Int) ≤ 9223372036854775807 := by omega
    cases p <;> cases ad <;> simp [Builtin.append_, run_underlying Tryz.underlying30, sizeOf, typeInfo, hi, Builtin.lenOf, Builtin.firstCells, storeCells, h63, loadCells, loadCellsFrom]
  · have hcell : ∀ j u, (ocs b)[j]? = some u → w.cell? ((⟨bb, o, none⟩ : Addr).add j) = some u := fun j u hu => by
      rw [vadd_none]
      have hj : j < b.length * 4 := by
        have := (List.getElem?_eq_some_iff.1 hu).1
        rwa [ocs_len] at this
      have e1 : j = j / 4 * 4 + j % 4 := by omega
      rw [e1, ocs_get b (j / 4) (j % 4) (by omega)] at hu
      obtain ⟨x, hx⟩ : ∃ x, b[j / 4]? = some x := ⟨_, List.getElem?_eq_getElem (by omega)⟩
      rw [hx] at hu
      have := (hb _ _ hx).all (j % 4) u hu
      rw [show o + j = o + j / 4 * 4 + j % 4 by omega]
      exact this
    obtain ⟨v', w', hr, k1, k2, _, k3⟩ := run_append_own_at (P := Tryz.prog) (w := w) 0 30 ty 32 i0 _ 4 48 Tryz.underlying30 hi hz0 hz1 hz2 rfl (by decide) u a.length (ocs a) h ⟨bb, o, none⟩ b.length cap (ocs b) (by rw [ocs_len]) hcell (ocs_one b) (by unfold maxLen; omega) (by omega) (Nat.zero_le _)
    refine ⟨v', w', hr, ?_, k2, k3⟩
    unfold ORow
    rw [ocs_append, List.length_append]
    exact k1
theorem OArg.chg {S : Nat → Prop} {w w' : World} {v : Value} {l : OL} (h : OArg w v l) (hc : Chg S w w') (hn : ∀ b, v.ownBlock = some b → ¬ S b) : OArg w' v l := by
  obtain ⟨a, cap, e, hcap, h⟩ := h
  refine ⟨a, cap, e, hcap, h.imp (fun h => h) ?_⟩
  rintro ⟨b, o, e2, h⟩
  refine ⟨b, o, e2, fun i x hx => (h i x hx).chg hc (hn b ?_)⟩
  rw [e, e2]; rfl
structure Kp (w0 w : World) (g : Gh) (ob : Nat) (v u : Value) (nw : OL) : Prop where
  arg : OArg w u nw
  out : ∀ b, u.ownBlock = some b → ¬ OS g ob v b ∧ b < w.heap.size ∧ w0.heap.size ≤ b
theorem Kp.new {w0 w w' : World} {g : Gh} {ob : Nat} {v u : Value} {nw : OL} (h : Kp w0 w g ob v u nw) (hb : Below w.heap.size w w') : Kp w0 w' g ob v u nw :=
  ⟨h.arg.keep hb, fun b hk => ⟨(h.out b hk).1, by have := (h.out b hk).2.1; have := hb.size; omega, (h.out b hk).2.2⟩⟩
theorem OTo.os {g g' : Gh} {ob : Nat} {v v' : Value} {w w' : World} (h : OTo g g' ob v v' w w') {k : Nat} (hk : OS g' ob v' k) : OS g ob v k ∨ w.heap.size ≤ k := by
  rcases hk with hk | hk | hk
  · rcases h.fp k hk with e | e
    · exact .inl (.inl e)
    · exact .inr e
  · exact .inl (.inr (.inl hk))
  · rcases h.own k hk with e | e
    · exact .inl (.inr (.inr e))
    · exact .inr e
theorem Kp.to {w0 w w' : World} {g g' : Gh} {ob : Nat} {v v' u : Value} {nw : OL} (h : Kp w0 w g ob v u nw) (ht : OTo g g' ob v v' w w') : Kp w0 w' g' ob v' u nw :=
  ⟨h.arg.chg ht.chg (fun b hb => (h.out b hb).1), fun b hb => by
    obtain ⟨a, c, d⟩ := h.out b hb
    refine ⟨fun hk => ?_, by have := ht.chg.size; omega, d⟩
    rcases ht.os hk with e | e
    · exact a e
    · omega⟩
theorem Kp.nil (w0 w : World) (g : Gh) (ob : Nat) (v : Value) : Kp w0 w g ob v (.slice none 0 0) [] := ⟨⟨none, 0, rfl, Nat.le_refl _, .inl rfl⟩, fun b hb => by cases hb⟩
structure PB (w0 w : World) (d k ob : Nat) (nv lv : Value) (g : Gh) (st : St) (v : Value) (l nw ls LS : OL) : Prop where
  ni : NI w0 w g st ob v l
  gd : g.d = d
  good : Good (2 * k) st
  only : OnlyN st
  cap : st.cap = 65536
  ok : OOk l
  okS : OOk LS
  relS : Rel LS ls
  saved : SavedO st LS
  kn : Kp w0 w g ob v nv nw
  kl : Kp w0 w g ob v lv ls
def PE (w0 w : World) (d k ob : Nat) (nv lv : Value) (l nw : OL) : Prop := ∃ g st v ls LS, PB w0 w d k ob nv lv g st v l nw ls LS
theorem PB.new {w0 w w' : World} {d k ob : Nat} {nv lv : Value} {g : Gh} {st : St} {v : Value} {l nw ls LS : OL} (h : PB w0 w d k ob nv lv g st v l nw ls LS) (hb : Below w.heap.size w w') : PB w0 w' d k ob nv lv g st v l nw ls LS :=
  ⟨h.ni.new (Chg.of_below hb), h.gd, h.good, h.only, h.cap, h.ok, h.okS, h.relS, h.saved, h.kn.new hb, h.kl.new hb⟩
theorem PE.new {w0 w w' : World} {d k ob : Nat} {nv lv : Value} {l nw : OL} (h : PE w0 w d k ob nv lv l nw) (hb : Below w.heap.size w w') : PE w0 w' d k ob nv lv l nw := by
  obtain ⟨g, st, v, ls, LS, h⟩ := h
  exact ⟨g, st, v, ls, LS, h.new hb⟩
theorem PE.below {w0 w : World} {d k ob : Nat} {nv lv : Value} {l nw : OL} (h : PE w0 w d k ob nv lv l nw) : Below w0.heap.size w0 w := by
  obtain ⟨g, st, v, ls, LS, h⟩ := h
  exact h.ni.below
theorem PE.more {w0 w : World} {d k ob : Nat} {nv lv : Value} {l nw : OL} (h : PE w0 w d k ob nv lv l nw) : PE w0 w d (k + 1) ob nv lv l nw := by
  obtain ⟨g, st, v, ls, LS, h⟩ := h
  exact ⟨g, st, v, ls, LS, h.ni, h.gd, h.good.more (by omega), h.only, h.cap, h.ok, h.okS, h.relS, h.saved, h.kn, h.kl⟩
theorem PE.renow {w0 w : World} {d k ob : Nat} {nv lv nv2 : Value} {l nw nw2 : OL} (h : PE w0 w d k ob nv lv l nw) {B : Nat} {w1 : World} (hw : Below B w1 w) (hB : ∀ g st v ls LS, PB w0 w d k ob nv lv g st v l nw ls LS → ∀ q, OS g ob v q → q < B) (hB2 : w0.heap.size ≤ B) (ha : ORow w nv2 nw2) (ho : ∀ b, nv2.ownBlock = some b → B ≤ b) : PE w0 w d k ob nv2 lv l nw2 := by
  obtain ⟨g, st, v, ls, LS, h⟩ := h
  have hlt := hB g st v ls LS h
  exact ⟨g, st, v, ls, LS, h.ni, h.gd, h.good, h.only, h.cap, h.ok, h.okS, h.relS, h.saved, ⟨ha.arg, fun b hb => ⟨fun hk => by have := hlt b hk; have := ho b hb; omega, ha.lt b hb, by have := ho b hb; omega⟩⟩, h.kl⟩
structure Kb (w : World) (g : Gh) (ob : Nat) (v : Value) (xb : Nat) (cs : Array Value) (ty : TypeId) : Prop where
  bx : w.heap[xb]? = some (.cells cs ty (0, 0))
  out : ¬ OS g ob v xb
theorem Kb.lt {w : World} {g : Gh} {ob : Nat} {v : Value} {xb : Nat} {cs : Array Value} {ty : TypeId} (h : Kb w g ob v xb cs ty) : xb < w.heap.size := (Array.getElem?_eq_some_iff.1 h.bx).1
theorem Kb.to {w w' : World} {g g' : Gh} {ob : Nat} {v v' : Value} {xb : Nat} {cs : Array Value} {ty : TypeId} (h : Kb w g ob v xb cs ty) (ht : OTo g g' ob v v' w w') : Kb w' g' ob v' xb cs ty :=
  ⟨ht.chg.heap h.bx h.out, fun hk => by
    rcases ht.os hk with e | e
    · exact h.out e
    · have := h.lt; omega⟩
theorem Kb.new {w w' : World} {g : Gh} {ob : Nat} {v : Value} {xb : Nat} {cs : Array Value} {ty : TypeId} (h : Kb w g ob v xb cs ty) (hb : Below w.heap.size w w') : Kb w' g ob v xb cs ty :=
  ⟨(Chg.of_below (S := fun _ => False) hb).heap h.bx (fun e => e), h.out⟩
def PX (w0 w : World) (d k ob : Nat) (nv lv : Value) (l nw : OL) (dn : Bool) (xb : Nat) (cs : Array Value) (ty : TypeId) : Prop := ∃ g st v ls LS, PB w0 w d k ob nv lv g st v l nw ls LS ∧ st.down = dn ∧ Kb w g ob v xb cs ty
theorem PX.pe {w0 w : World} {d k ob : Nat} {nv lv : Value} {l nw : OL} {dn : Bool} {xb : Nat} {cs : Array Value} {ty : TypeId} (h : PX w0 w d k ob nv lv l nw dn xb cs ty) : PE w0 w d k ob nv lv l nw := by
  obtain ⟨g, st, v, ls, LS, h, _⟩ := h
  exact ⟨g, st, v, ls, LS, h⟩
theorem PE.box {w0 w w1 : World} {d k ob : Nat} {nv lv : Value} {l nw : OL} {cs : Array Value} {ty : TypeId} (h : PE w0 w d k ob nv lv l nw) (hw : w1 = w.alloc (.cells cs ty (0, 0))) : ∃ dn, PX w0 w1 d k ob nv lv l nw dn w.heap.size cs ty := by
  obtain ⟨g, st, v, ls, LS, h⟩ := h
  subst hw
  refine ⟨_, g, st, v, ls, LS, h.new ((Below.refl _ _).alloc (Nat.le_refl _) _), rfl, heap_alloc_new w _, fun hk => ?_⟩
  have := h.ni.oi.lt _ hk
  omega
theorem PX.new {w0 w w' : World} {d k ob : Nat} {nv lv : Value} {l nw : OL} {dn : Bool} {xb : Nat} {cs : Array Value} {ty : TypeId} (h : PX w0 w d k ob nv lv l nw dn xb cs ty) (hb : Below w.heap.size w w') : PX w0 w' d k ob nv lv l nw dn xb cs ty := by
  obtain ⟨g, st, v, ls, LS, h, h2, h3⟩ := h
  exact ⟨g, st, v, ls, LS, h.new hb, h2, h3.new hb⟩
theorem PX.more {w0 w : World} {d k ob : Nat} {nv lv : Value} {l nw : OL} {dn : Bool} {xb : Nat} {cs : Array Value} {ty : TypeId} (h : PX w0 w d k ob nv lv l nw dn xb cs ty) : PX w0 w d (k + 1) ob nv lv l nw dn xb cs ty := by
  obtain ⟨g, st, v, ls, LS, h, h2, h3⟩ := h
  exact ⟨g, st, v, ls, LS, ⟨h.ni, h.gd, h.good.more (by omega), h.only, h.cap, h.ok, h.okS, h.relS, h.saved, h.kn, h.kl⟩, h2, h3⟩
theorem PX.ok {w0 w : World} {d k ob : Nat} {nv lv : Value} {l nw : OL} {dn : Bool} {xb : Nat} {cs : Array Value} {ty : TypeId} (h : PX w0 w d k ob nv lv l nw dn xb cs ty) : OOk l := by
  obtain ⟨g, st, v, ls, LS, h, h2, h3⟩ := h
  exact h.ok
theorem PX.arg {w0 w : World} {d k ob : Nat} {nv lv : Value} {l nw : OL} {dn : Bool} {xb : Nat} {cs : Array Value} {ty : TypeId} (h : PX w0 w d k ob nv lv l nw dn xb cs ty) : OArg w nv nw := by
  obtain ⟨g, st, v, ls, LS, h, h2, h3⟩ := h
  exact h.kn.arg
theorem PX.bx {w0 w : World} {d k ob : Nat} {nv lv : Value} {l nw : OL} {dn : Bool} {xb : Nat} {cs : Array Value} {ty : TypeId} (h : PX w0 w d k ob nv lv l nw dn xb cs ty) : w.heap[xb]? = some (.cells cs ty (0, 0)) := by
  obtain ⟨g, st, v, ls, LS, h, h2, h3⟩ := h
  exact h3.bx
theorem PX.set {w0 w : World} {d k ob : Nat} {nv lv : Value} {l nw : OL} {dn : Bool} {xb : Nat} {cs : Array Value} {ty : TypeId} (x : OfM) (h : PX w0 w d k ob nv lv l nw dn xb cs ty) (h1 : x.g.size ≤ 1000) (h2 : x.t.size ≤ 1000) :
    Calls Tryz.prog 12 #[.pointer (some ⟨ob, 0, none⟩), .agg (oenc x).toArray] w fun e w' => e = .returned (.int .i64 (osE l x)) ∧ PX w0 w' d k ob nv lv (osL l x) nw dn xb cs ty := by
  obtain ⟨g, st, v, ls, LS, h, hd, hx⟩ := h
  refine (oset_ni x h.ni h.ok h1 h2).mono ?_
  rintro e w' ⟨he, v', h3, ht⟩
  exact ⟨he, g, st, v', ls, LS, ⟨h3, h.gd, h.good, h.only, h.cap, h.ok.set x, h.okS, h.relS, h.saved, h.kn.to ht, h.kl.to ht⟩, hd, hx.to ht⟩
theorem PX.down {w0 w : World} {d k ob : Nat} {nv lv : Value} {l nw : OL} {dn : Bool} {xb : Nat} {cs : Array Value} {ty : TypeId} (h : PX w0 w d k ob nv lv l nw dn xb cs ty) :
    Calls Tryz.prog 13 #[.pointer (some ⟨d, 0, none⟩)] w fun e w' => e = .returned (.bool dn) ∧ w = w' := by
  obtain ⟨g, st, v, ls, LS, h, hd, hx⟩ := h
  rw [← h.gd, ← hd]
  exact down_any g st w h.ni.oi.disk
theorem PX.all {w0 w : World} {d k ob : Nat} {nv lv : Value} {l nw : OL} {dn : Bool} {xb : Nat} {cs : Array Value} {ty : TypeId} (h : PX w0 w d k ob nv lv l nw dn xb cs ty) :
    Calls Tryz.prog 18 #[.pointer (some ⟨ob, 0, none⟩)] w (CloneTo w l) := by
  obtain ⟨g, st, v, ls, LS, h, hd, hx⟩ := h
  exact oall_any h.ni.oi.head (by have := h.ok.len; omega)
theorem PX.get {w0 w : World} {d k ob : Nat} {nv lv : Value} {l nw : OL} {dn : Bool} {xb : Nat} {cs : Array Value} {ty : TypeId} (h : PX w0 w d k ob nv lv l nw dn xb cs ty) (a b : ByteArray) (q : Int) :
    Calls Tryz.prog 20 #[.pointer (some ⟨ob, 0, none⟩), .string a, .string b, .int .i64 q] w fun e w' => e = .returned (.int .i64 (getO l a b q)) ∧ Below w.heap.size w w' := by
  obtain ⟨g, st, v, ls, LS, h, hd, hx⟩ := h
  exact get_any a b q h.ni.oi.head h.ok.ris (by have := h.ok.len; omega)
theorem PX.flush {w0 w : World} {d k ob : Nat} {nv lv : Value} {l nw : OL} {dn : Bool} {xb : Nat} {cs : Array Value} {ty : TypeId} (h : PX w0 w d k ob nv lv l nw dn xb cs ty) (hr : Rel l nw) (hk : k ≤ 1000) :
    (Calls Tryz.prog 14 #[.pointer (some ⟨ob, 0, none⟩)] w fun e w' => e = .returned (.int .i64 0) ∧ PX w0 w' d (k + 1) ob nv nv l nw false xb cs ty) ∨
    (Calls Tryz.prog 14 #[.pointer (some ⟨ob, 0, none⟩)] w fun e w' => e = .returned (.int .i64 8) ∧ PX w0 w' d (k + 1) ob nv lv l nw true xb cs ty) := by
  obtain ⟨g, st, v, ls, LS, h, hd, hx⟩ := h
  have hf := oflush_any h.ni.oi h.ok h.good (by omega)
  have hg2 : Good (2 * (k + 1)) (saveS st (freshB grpF) grpF (sealO l)) := (saveS_good h.good _ _ _).more (by omega)
  have hc2 := (saveS_cap st (freshB grpF) grpF (sealO l)).trans h.cap
  have ho2 := saveS_only h.only (sealO l)
  rcases flush_fuse h.good h.only h.cap h.ok h.saved h.okS with ⟨e1, e2, e3⟩ | ⟨e1, e2, e3⟩
  · left
    rw [e1] at hf
    refine hf.mono ?_
    rintro e w' ⟨he, g', h2, ht⟩
    exact ⟨he, g', _, v, nw, l, ⟨h.ni.to h2 ht, ht.d.trans h.gd, hg2, ho2, hc2, h.ok, h.ok, hr, e3, h.kn.to ht, h.kn.to ht⟩, e2, hx.to ht⟩
  · right
    rw [e1] at hf
    refine hf.mono ?_
    rintro e w' ⟨he, g', h2, ht⟩
    exact ⟨he, g', _, v, ls, LS, ⟨h.ni.to h2 ht, ht.d.trans h.gd, hg2, ho2, hc2, h.ok, h.okS, h.relS, e3, h.kn.to ht, h.kl.to ht⟩, e2, hx.to ht⟩
theorem find_fs {a b : St} (h : a.fs = b.fs) (f : ByteArray) : a.find f = b.find f := by unfold St.find; rw [h]
theorem PX.fuse {w0 w : World} {d k ob : Nat} {nv lv : Value} {l nw : OL} {dn : Bool} {xb : Nat} {cs : Array Value} {ty : TypeId} (h : PX w0 w d k ob nv lv l nw dn xb cs ty) (n : Int) (hn : n ≤ 9223372036854775807) :
    Calls Tryz.prog 15 #[.pointer (some ⟨d, 0, none⟩), .int .i64 n] w fun e w' => e = .returned (.tuple #[]) ∧ PX w0 w' d k ob nv lv l nw dn xb cs ty := by
  obtain ⟨g, st, v, ls, LS, h, hd, hx⟩ := h
  rw [← h.gd]
  refine (ni_fuse h.ni n hn h.good).mono ?_
  rintro e w' ⟨he, st', h2, g2, f2, c2, s2, d2, ht⟩
  refine ⟨he, g, st', v, ls, LS, ⟨h2, rfl, g2, fun a h1 h3 => (find_fs f2 a).trans (h.only a h1 h3), c2.trans h.cap, h.ok, h.okS, h.relS, ?_, h.kn.to ht, h.kl.to ht⟩, d2.trans hd, hx.to ht⟩
  rcases h.saved with ⟨a, b⟩ | ⟨F, a, b, c⟩
  · exact .inl ⟨a, (find_fs f2 _).trans b⟩
  · exact .inr ⟨F, (find_fs f2 _).trans a, b, c⟩
theorem only_names {a b : St} (h : a.fs.map (·.1) = b.fs.map (·.1)) (ho : OnlyN b) : OnlyN a := fun f h1 h2 => by
  have hn := find_none_names (ho f h1 h2)
  unfold St.find
  rw [Option.map_eq_none_iff, List.find?_eq_none]
  intro p hp
  have h3 : p.1 ∈ b.fs.map (·.1) := by rw [← h]; exact List.mem_map_of_mem hp
  have : p.1 ≠ f := fun e => hn (e ▸ h3)
  simp [this]
theorem PX.crash {w0 w : World} {d k ob : Nat} {nv lv : Value} {l nw : OL} {dn : Bool} {xb : Nat} {cs : Array Value} {ty : TypeId} (h : PX w0 w d k ob nv lv l nw dn xb cs ty) (hk : k ≤ 400) (vk : Value) (bs : List Bool) (lack : Int) (hvb : BoolsOf w vk bs) (hbs : bs.length ≤ 1000) :
    Calls Tryz.prog 16 #[.pointer (some ⟨d, 0, none⟩), .agg #[vk, .int .i64 lack]] w fun e w' => e = .returned (.tuple #[]) ∧ PX w0 w' d k ob nv lv l nw false xb cs ty := by
  obtain ⟨g, st, v, ls, LS, h, hd, hx⟩ := h
  rw [← h.gd]
  refine (ni_crash h.ni h.good (by omega) h.saved vk bs lack hvb hbs).mono ?_
  rintro e w' ⟨he, g', st', h2, g2, s2, d2, c2, n2, e2, ht⟩
  exact ⟨he, g', st', v, ls, LS, ⟨h2, e2, g2, only_names n2 h.only, c2.trans h.cap, h.ok, h.okS, h.relS, s2, h.kn.to ht, h.kl.to ht⟩, d2, hx.to ht⟩
def PO (w0 w : World) (d k ob : Nat) (lv : Value) (l ls : OL) (xb : Nat) (cs : Array Value) (ty : TypeId) : Prop := ∃ g st v, PB w0 w d k ob lv lv g st v l ls ls l ∧ st.down = false ∧ Kb w g ob v xb cs ty
theorem PO.px {w0 w : World} {d k ob : Nat} {lv : Value} {l ls : OL} {xb : Nat} {cs : Array Value} {ty : TypeId} (h : PO w0 w d k ob lv l ls xb cs ty) : PX w0 w d k ob lv lv l ls false xb cs ty := by
  obtain ⟨g, st, v, h, hd, hx⟩ := h
  exact ⟨g, st, v, ls, l, h, hd, hx⟩
theorem PO.rel {w0 w : World} {d k ob : Nat} {lv : Value} {l ls : OL} {xb : Nat} {cs : Array Value} {ty : TypeId} (h : PO w0 w d k ob lv l ls xb cs ty) : Rel l ls := by
  obtain ⟨g, st, v, h, hd, hx⟩ := h
  exact h.relS
theorem PO.new {w0 w w' : World} {d k ob : Nat} {lv : Value} {l ls : OL} {xb : Nat} {cs : Array Value} {ty : TypeId} (h : PO w0 w d k ob lv l ls xb cs ty) (hb : Below w.heap.size w w') : PO w0 w' d k ob lv l ls xb cs ty := by
  obtain ⟨g, st, v, h, h2, h3⟩ := h
  exact ⟨g, st, v, h.new hb, h2, h3.new hb⟩
theorem PO.now {w0 w w' : World} {d k ob : Nat} {lv : Value} {l ls : OL} {xb : Nat} {cs : Array Value} {ty : TypeId} {u : Value} (h : PO w0 w d k ob lv l ls xb cs ty) (hb : Below w.heap.size w w') (hr : ORow w' u l) (ho : ∀ q, u.ownBlock = some q → w.heap.size ≤ q) : PX w0 w' d k ob u u l l false xb cs ty := by
  obtain ⟨g, st, v, h, h2, h3⟩ := h
  have hn := h.new hb
  have hz := h.ni.chg.size
  have hkp : Kp w0 w' g ob v u l := ⟨hr.arg, fun b hb2 => ⟨fun hk => by have := h.ni.oi.lt b hk; have := ho b hb2; omega, hr.lt b hb2, by have := ho b hb2; omega⟩⟩
  exact ⟨g, st, v, l, l, ⟨hn.ni, hn.gd, hn.good, hn.only, hn.cap, hn.ok, hn.okS, Rel.self h.ok.ris, hn.saved, hkp, hkp⟩, h2, h3.new hb⟩
theorem PX.open_ {w0 w : World} {d k ob : Nat} {nv lv : Value} {l nw : OL} {xb : Nat} {cs : Array Value} {ty : TypeId} (h : PX w0 w d k ob nv lv l nw false xb cs ty) :
    ∃ LS ls, Calls Tryz.prog 9 #[.pointer (some ⟨d, 0, none⟩)] w fun e w' => ∃ ob2, e = .returned (.tuple #[.pointer (some ⟨ob2, 0, none⟩), .int .i64 0]) ∧ PO w0 w' d k ob2 lv LS ls xb cs ty := by
  obtain ⟨g, st, v, ls, LS, h, hd, hx⟩ := h
  refine ⟨LS, ls, ?_⟩
  rw [← h.gd]
  refine (open_saved h.ni.oi.disk h.ni.chg (fun q hq => h.ni.low q (.inl hq)) h.saved h.okS hd).mono ?_
  rintro e w' ⟨hb, ob2, v2, he, h1, h2, h3⟩
  have hos : ∀ q, OS g ob2 v2 q → OS g ob v q ∨ w.heap.size ≤ q := fun q hq => by
    rcases hq with e | e | e
    · exact .inl (.inl e)
    · exact .inr (by omega)
    · exact .inr (h2 q e)
  have hkl := h.kl.new hb
  have hkp : Kp w0 w' g ob2 v2 lv ls := ⟨hkl.arg, fun b hb2 => by
    obtain ⟨a, c, f⟩ := h.kl.out b hb2
    refine ⟨fun hk => ?_, (hkl.out b hb2).2.1, f⟩
    rcases hos b hk with e | e
    · exact a e
    · omega⟩
  refine ⟨ob2, he, g, st, v2, ⟨h3, rfl, h.good, h.only, h.cap, h.okS, h.okS, h.relS, h.saved, hkp, hkp⟩, hd, (hx.new hb).bx, fun hk => ?_⟩
  rcases hos xb hk with e | e
  · exact hx.out e
  · have := hx.lt; omega
theorem PX.renow {w0 w w' : World} {d k ob : Nat} {nv lv nv2 : Value} {l nw nw2 : OL} {dn : Bool} {xb : Nat} {cs : Array Value} {ty : TypeId} (h : PX w0 w d k ob nv lv l nw dn xb cs ty) (hb : Below w.heap.size w w') (ha : ORow w' nv2 nw2) (ho : ∀ b, nv2.ownBlock = some b → w.heap.size ≤ b) : PX w0 w' d k ob nv2 lv l nw2 dn xb cs ty := by
  obtain ⟨g, st, v, ls, LS, h, h2, h3⟩ := h
  have hn := h.new hb
  have hz := h.ni.chg.size
  exact ⟨g, st, v, ls, LS, ⟨hn.ni, hn.gd, hn.good, hn.only, hn.cap, hn.ok, hn.okS, hn.relS, hn.saved, ⟨ha.arg, fun b hb2 => ⟨fun hk => by have := h.ni.oi.lt b hk; have := ho b hb2; omega, ha.lt b hb2, by have := ho b hb2; omega⟩⟩, hn.kl⟩, h2, h3.new hb⟩
set_option maxRecDepth 100000 in
theorem PX.copy {w0 w : World} {d k ob : Nat} {nv lv : Value} {l nw : OL} {dn : Bool} {xb : Nat} {cs : Array Value} {ty : TypeId} (h : PX w0 w d k ob nv lv l nw dn xb cs ty) (hl : nw.length ≤ 100) (t1 : TypeId) :
    ∃ v1 w1, (Builtin.append_ #[30, 30] t1 #[.slice (some ⟨w.heap.size, 0, none⟩) 0 0, nv]).run Tryz.prog (w.alloc (.cells #[] 32)) = .ok v1 w1 ∧ Below w.heap.size w w1 ∧ ORow w1 v1 nw ∧ (∀ q, v1.ownBlock = some q → w.heap.size ≤ q) ∧ PX w0 w1 d k ob v1 lv l nw dn xb cs ty := by
  have hb0 : Below w.heap.size w (w.alloc (.cells #[] 32)) := (Below.refl _ _).alloc (Nat.le_refl _) _
  have h0 : ORow (w.alloc (.cells #[] 32)) (.slice (some ⟨w.heap.size, 0, none⟩) 0 0) [] := ⟨rfl, .inr ⟨w.heap.size, 0, #[], rfl, Nat.zero_le _, heap_alloc_new w _, Nat.le_refl _, Nat.zero_le _, rfl, rfl⟩⟩
  obtain ⟨v1, w1, hr1, k1, g1, o1⟩ := app_arg h0 (h.arg.keep hb0) (by simp; omega) t1
  have c1 : Chg (fun k => k = w.heap.size) (w.alloc (.cells #[] 32)) w1 := Chg.of_grown g1 (fun k hk _ => by injection hk with hk; exact hk.symm)
  have hb2 : Below w.heap.size w w1 := hb0.trans (Chg.below c1 (fun k _ e => by omega) (by rw [World.size_alloc]; omega))
  have hown : ∀ q, v1.ownBlock = some q → w.heap.size ≤ q := fun q hq => by
    rcases o1 with e | e
    · have e2 : some w.heap.size = some q := e.symm.trans hq
      injection e2 with e2; omega
    · rw [e, World.size_alloc] at hq; injection hq with hq; omega
  rw [List.nil_append] at k1
  exact ⟨v1, w1, hr1, hb2, k1, hown, h.renow hb2 k1 hown⟩
theorem PX.app {w0 w w1 : World} {d k ob : Nat} {nv v1 lv : Value} {l nw : OL} {dn : Bool} {xb : Nat} {cs : Array Value} {ty : TypeId} (x : OfM) (h : PX w0 w d k ob nv lv l nw dn xb cs ty) (hb : Below w.heap.size w w1) (hr : ORow w1 v1 nw) (ho : ∀ q, v1.ownBlock = some q → w.heap.size ≤ q) (hl : nw.length ≤ 100) (t1 : TypeId) :
    ∃ v2 w2, (Builtin.append_ #[30, 30] t1 #[v1, .slice (some ⟨w1.heap.size, 0, none⟩) 1 1]).run Tryz.prog (w1.alloc (.cells #[.string x.g, .string x.t, .int .i64 x.q, .int .i64 x.a] 32)) = .ok v2 w2 ∧ PX w0 w2 d k ob v2 lv l (nw ++ [x]) dn xb cs ty := by
  have hb0 : Below w1.heap.size w1 (w1.alloc (.cells #[.string x.g, .string x.t, .int .i64 x.q, .int .i64 x.a] 32)) := (Below.refl _ _).alloc (Nat.le_refl _) _
  obtain ⟨v2, w2, hr2, h2⟩ := ins_append (x := x) (q := w1.heap.size) (hr.new hb0) (by omega) (heap_alloc_new w1 _) t1
  have e1 : insL nw nw.length x = nw ++ [x] := by unfold insL; rw [List.take_length, List.drop_length]
  rw [e1] at h2
  have hz := hb.size
  have hb2 : Below w.heap.size w w2 := (hb.trans (hb0.mono hz)).trans (Chg.below h2.chg (fun q _ e => ho q e) (by rw [World.size_alloc]; omega))
  have hown : ∀ q, v2.ownBlock = some q → w.heap.size ≤ q := fun q hq => by
    rcases h2.own q hq with e | e
    · exact ho q e
    · rw [World.size_alloc] at e; omega
  exact ⟨v2, w2, hr2, h.renow hb2 h2.row hown⟩
theorem PX.at_ {w0 w w1 : World} {d k ob : Nat} {nv v1 lv : Value} {l nw : OL} {dn : Bool} {xb : Nat} {cs : Array Value} {ty : TypeId} (x : OfM) (h : PX w0 w d k ob nv lv l nw dn xb cs ty) (hb : Below w.heap.size w w1) (hr : ORow w1 v1 nw) (ho : ∀ q, v1.ownBlock = some q → w.heap.size ≤ q) {j : Nat} (hj : j < nw.length) :
    ∃ g c, v1 = .slice (some ⟨g, 0, none⟩) nw.length c ∧ PX w0 (w1.setCells g (j * 4) (oenc x)) d k ob v1 lv l (nw.set j x) dn xb cs ty := by
  obtain ⟨a, c, e⟩ := hr.len
  have hr' := hr
  rw [e] at hr'
  obtain ⟨g, ea, _⟩ := hr'.at_ (List.getElem?_eq_getElem hj)
  have hg : v1.ownBlock = some g := by rw [e, ea]; rfl
  have hput := hr.put (x := x) hg hj
  have hb2 : Below w.heap.size w (w1.setCells g (j * 4) (oenc x)) := hb.trans (Chg.below (chg_lay g (oenc x) (j * 4) w1) (fun q _ e => by have := ho g hg; omega) hb.size)
  exact ⟨g, c, by rw [e, ea], h.renow hb2 hput ho⟩
end Go.Proofs.YtemimmnamajooaaGreat
namespace Go.Proofs.YtemimmnamajooaaGreat
open Go.RowKit Go.Deep
open Go.ChangeShapes Go.WideShapes
structure OpO where
  k : Int
  n : Int
  x : OfM
  vk : Value
  bs : List Bool
  lack : Int
instance : Inhabited OpO := ⟨⟨0, 0, default, .nilIface, [], 0⟩⟩
def OpO.enc (x : OpO) : List Value := [.int .i64 x.k, .int .i64 x.n, .string x.x.g, .string x.x.t, .int .i64 x.x.q, .int .i64 x.x.a, x.vk, .int .i64 x.lack]
def OpCell (w : World) (b o : Nat) (x : OpO) : Prop := (∀ j u, x.enc[j]? = some u → w.cell? ⟨b, o + j, none⟩ = some u) ∧ BoolsOf w x.vk x.bs
theorem OpCell.keep {w w' : World} {b o : Nat} {x : OpO} (h : OpCell w b o x) (hb : Below w.heap.size w w') : OpCell w' b o x := ⟨fun j u hu => ukeep hb (h.1 j u hu), by
  obtain ⟨a, c, e, h2⟩ := h.2
  refine ⟨a, c, e, h2.imp (fun h => h) ?_⟩
  rintro ⟨b, o, e, hc⟩
  exact ⟨b, o, e, fun i hi => ukeep hb (hc i hi)⟩⟩
def OpsA (w : World) (v : Value) (os : List OpO) : Prop := ∃ a cap, v = .slice a os.length cap ∧ (os = [] ∨ ∃ b o, a = some ⟨b, o, none⟩ ∧ ∀ i x, os[i]? = some x → OpCell w b (o + i * 8) x)
theorem OpsA.keep {w w' : World} {v : Value} {os : List OpO} (h : OpsA w v os) (hb : Below w.heap.size w w') : OpsA w' v os := by
  obtain ⟨a, cap, e, h⟩ := h
  refine ⟨a, cap, e, h.imp (fun h => h) ?_⟩
  rintro ⟨b, o, e2, h⟩
  exact ⟨b, o, e2, fun i x hx => (h i x hx).keep hb⟩
theorem OpsA.len {w : World} {v : Value} {os : List OpO} (h : OpsA w v os) : ∃ a cap, v = .slice a os.length cap := by
  obtain ⟨a, cap, e, _⟩ := h; exact ⟨a, cap, e⟩
theorem OpsA.at_ {w : World} {a : Option Addr} {n cap : Nat} {os : List OpO} (h : OpsA w (.slice a n cap) os) {i : Nat} {x : OpO} (hx : os[i]? = some x) : ∃ b o, a = some ⟨b, o, none⟩ ∧ OpCell w b (o + i * 8) x := by
  obtain ⟨a', cap', e, h⟩ := h
  injection e with e1 e2 e3
  subst e1
  rcases h with h | ⟨b, o, e4, h⟩
  · rw [h] at hx; cases hx
  · exact ⟨b, o, e4, h i x hx⟩
section
variable {H : Type} {enc : TypeId × Value → H} {W : World}
set_option maxRecDepth 100000 in
theorem opo_open {n : Nat} {b o : Nat} {cs : List Value} {y : DataW H × List MemPlace} (hcs : W.cells? 0 ⟨b, o, none⟩ 8 = some cs) (h : DataW.trod enc Tryz.prog W 0 (fun _ => true) true n 37 cs = some y) :
    ∃ x : OpO, OpCell W b o x ∧ x.n ≤ 9223372036854775807 ∧ x.bs.length ≤ maxLen := by
  obtain ⟨_, hlen, hat⟩ := World.cells?_some hcs
  obtain ⟨xs, m, _, _, _, hxl, hf⟩ := DataW.trod_struct Tryz.underlying37 h
  match cs, hlen with
  | [c0, c1, c2, c3, c4, c5, c6, c7], _ =>
    have hx : xs.length = 4 := hxl
    match xs, hx with
    | [y0, y1, y2, y3], _ =>
      have f0 : DataW.trod enc Tryz.prog W 0 (fun _ => true) true m 3 [c0] = some y0 := hf 0 _ rfl
      have f1 : DataW.trod enc Tryz.prog W 0 (fun _ => true) true m 3 [c1] = some y1 := hf 1 _ rfl
      have f2 : DataW.trod enc Tryz.prog W 0 (fun _ => true) true m 32 [c2, c3, c4, c5] = some y2 := hf 2 _ rfl
      have f3 : DataW.trod enc Tryz.prog W 0 (fun _ => true) true m 35 [c6, c7] = some y3 := hf 3 _ rfl
      obtain ⟨zs, m2, _, _, _, hzl, hg⟩ := DataW.trod_struct Tryz.underlying32 f2
      obtain ⟨ys, m3, _, _, _, hyl, hk⟩ := DataW.trod_struct Tryz.underlying35 f3
      have hz : zs.length = 4 := hzl
      have hy : ys.length = 2 := hyl
      match zs, hz, ys, hy with
      | [z0, z1, z2, z3], _, [u0, u1], _ =>
        have g0 : DataW.trod enc Tryz.prog W 0 (fun _ => true) true m2 9 [c2] = some z0 := hg 0 _ rfl
        have g1 : DataW.trod enc Tryz.prog W 0 (fun _ => true) true m2 9 [c3] = some z1 := hg 1 _ rfl
        have g2 : DataW.trod enc Tryz.prog W 0 (fun _ => true) true m2 3 [c4] = some z2 := hg 2 _ rfl
        have g3 : DataW.trod enc Tryz.prog W 0 (fun _ => true) true m2 3 [c5] = some z3 := hg 3 _ rfl
        have k0 : DataW.trod enc Tryz.prog W 0 (fun _ => true) true m3 33 [c6] = some u0 := hk 0 _ rfl
        have k1 : DataW.trod enc Tryz.prog W 0 (fun _ => true) true m3 3 [c7] = some u1 := hk 1 _ rfl
        obtain ⟨k, e0, _, _⟩ := DataW.trod_int Tryz.underlying3 f0
        obtain ⟨n', e1, _, w1⟩ := DataW.trod_int Tryz.underlying3 f1
        obtain ⟨s0, e2, _, _⟩ := DataW.trod_string Tryz.underlying9 g0
        obtain ⟨s1, e3, _, _⟩ := DataW.trod_string Tryz.underlying9 g1
        obtain ⟨p2, e4, _, _⟩ := DataW.trod_int Tryz.underlying3 g2
        obtain ⟨p3, e5, _, _⟩ := DataW.trod_int Tryz.underlying3 g3
        obtain ⟨lack, e7, _, _⟩ := DataW.trod_int Tryz.underlying3 k1
        obtain ⟨bs, hb, hbl, _⟩ := ubools_open k0
        obtain rfl : c0 = _ := List.singleton_inj.1 e0
        obtain rfl : c1 = _ := List.singleton_inj.1 e1
        obtain rfl : c2 = _ := List.singleton_inj.1 e2
        obtain rfl : c3 = _ := List.singleton_inj.1 e3
        obtain rfl : c4 = _ := List.singleton_inj.1 e4
        obtain rfl : c5 = _ := List.singleton_inj.1 e5
        obtain rfl : c7 = _ := List.singleton_inj.1 e7
        refine ⟨⟨k, n', ⟨s0, s1, p2, p3⟩, c6, bs, lack⟩, ⟨fun j u hu => ?_, hb⟩, (wf_in w1).1, hbl⟩
        have hj : j < 8 := (List.getElem?_eq_some_iff.1 hu).1
        have := hat j hj
        rw [vadd_none] at this
        rw [this]; exact hu
set_option maxRecDepth 100000 in
theorem open_opos {n : Nat} {la : Option Addr} {len cap : Nat} {y : DataW H × List MemPlace} (h : DataW.trod enc Tryz.prog W 0 (fun _ => true) true n 22 [.slice la len cap] = some y) :
    ∃ os, OpsA W (.slice la len cap) os ∧ os.length ≤ maxLen ∧ ∀ x ∈ os, x.n ≤ 9223372036854775807 ∧ x.bs.length ≤ maxLen := by
  rcases open_slice Tryz.underlying22 h with ⟨hcs, _⟩ | ⟨a, l, c, m, q, D, Pl, hcs, _, hl, hm, hmm, _, hi⟩
  · cases hcs
    exact ⟨[], ⟨none, 0, rfl, .inl rfl⟩, Nat.zero_le _, fun x hx => by cases hx⟩
  · cases hcs
    have hC : Tryz.prog.cellsOf 37 = 8 := by kernel_rfl
    rcases Nat.eq_zero_or_pos len with h0 | h0
    · subst h0
      exact ⟨[], ⟨some a, cap, rfl, .inl rfl⟩, Nat.zero_le _, fun x hx => by cases hx⟩
    · have hml : len ≤ m := by rw [hmm]; simpa using hl
      obtain ⟨b, off, spot⟩ := a
      have hspot : spot = none := by
        obtain ⟨cs', h1, _⟩ := hi 0 (by omega)
        rw [hC] at h1
        obtain ⟨_, hlen, hat⟩ := World.cells?_some h1
        have h2 := hat 0 (by decide)
        rw [List.getElem?_eq_getElem (by omega)] at h2
        simpa [Addr.add] using World.cell?_spot h2
      subst hspot
      obtain ⟨X, hX⟩ := choose_lt (n := len) (p := fun i x => OpCell W b (off + i * 8) x ∧ x.n ≤ 9223372036854775807 ∧ x.bs.length ≤ maxLen) (fun i hil => by
        obtain ⟨cs', h1, h2⟩ := hi i (by omega)
        rw [hC, vadd_none] at h1
        exact opo_open h1 h2)
      refine ⟨(List.range len).map X, ⟨_, cap, by simp, .inr ⟨b, off, rfl, fun i x hx => ?_⟩⟩, by simpa using Nat.le_trans hl hm, fun x hx => ?_⟩
      rotate_left
      · obtain ⟨i, hi2, rfl⟩ := List.mem_map.1 hx
        exact (hX i (List.mem_range.1 hi2)).2
      rw [List.getElem?_map] at hx
      obtain ⟨j, hj, rfl⟩ := Option.map_eq_some_iff.1 hx
      obtain ⟨h1, h2⟩ := List.getElem?_eq_some_iff.1 hj
      rw [List.getElem_range] at h2
      subst h2
      exact (hX _ (by simpa using h1)).1
end
end Go.Proofs.YtemimmnamajooaaGreat
