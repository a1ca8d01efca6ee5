/-
  What a crash leaves that keeps all, or nothing.
-/
import Derived.Test.YtmoehmclcegmnaaDRoomP
import Derived.Test.YtmoehmclcegmnaaDSame
namespace Go.Proofs.Ytmoehmclcegmnaa
open Go.RowKit Go.Deep

/-! ### sums over files -/
def sumN (φ : FileM → Nat) (fs : List (ByteArray × FileM)) : Nat := (fs.map fun p => φ p.2).sum
theorem sumN_cons (φ : FileM → Nat) (p : ByteArray × FileM) (l : List (ByteArray × FileM)) : sumN φ (p :: l) = φ p.2 + sumN φ l := rfl
theorem sumN_append (φ : FileM → Nat) (a b : List (ByteArray × FileM)) : sumN φ (a ++ b) = sumN φ a + sumN φ b := by simp [sumN]
theorem sumN_setF (φ : FileM → Nat) {fs : List (ByteArray × FileM)} {nm : ByteArray} {f : FileM} (f' : FileM) (hn : (fs.map (·.1)).Nodup) (hf : (fs.find? fun p => decide (p.1 = nm)).map (·.2) = some f) :
    sumN φ (setF fs nm f') + φ f = sumN φ fs + φ f' := by
  induction fs with
  | nil => cases hf
  | cons p l ih =>
    rw [List.map_cons, List.nodup_cons] at hn
    by_cases hp : p.1 = nm
    · rw [List.find?_cons_of_pos (by simp [hp])] at hf
      obtain rfl : p.2 = f := Option.some.inj hf
      have h1 : setF (p :: l) nm f' = (nm, f') :: setF l nm f' := by unfold setF; rw [List.map_cons, if_pos hp]
      rw [h1, setF_none f' (hp ▸ hn.1), sumN_cons, sumN_cons]
      show φ f' + sumN φ l + φ p.2 = φ p.2 + sumN φ l + φ f'
      omega
    · rw [List.find?_cons_of_neg (by simp [hp])] at hf
      have h1 : setF (p :: l) nm f' = p :: setF l nm f' := by unfold setF; rw [List.map_cons, if_neg hp]
      have := ih hn.2 hf
      rw [h1, sumN_cons, sumN_cons]
      omega
theorem sumN_dropF_le (φ : FileM → Nat) (fs : List (ByteArray × FileM)) (nm : ByteArray) : sumN φ (dropF fs nm) ≤ sumN φ fs := by
  induction fs with
  | nil => exact Nat.le_refl _
  | cons p l ih =>
    unfold dropF at ih ⊢
    rw [List.filter_cons]
    split
    · rw [sumN_cons, sumN_cons]; omega
    · rw [sumN_cons]; omega
theorem sumN_dropF (φ : FileM → Nat) {fs : List (ByteArray × FileM)} {nm : ByteArray} {f : FileM} (hf : (fs.find? fun p => decide (p.1 = nm)).map (·.2) = some f) : sumN φ (dropF fs nm) + φ f ≤ sumN φ fs := by
  induction fs with
  | nil => cases hf
  | cons p l ih =>
    by_cases hp : p.1 = nm
    · rw [List.find?_cons_of_pos (by simp [hp])] at hf
      obtain rfl : p.2 = f := Option.some.inj hf
      have h1 : dropF (p :: l) nm = dropF l nm := by unfold dropF; rw [List.filter_cons, if_neg (by simp [hp])]
      have := sumN_dropF_le φ l nm
      rw [h1, sumN_cons]
      omega
    · rw [List.find?_cons_of_neg (by simp [hp])] at hf
      have h1 : dropF (p :: l) nm = p :: dropF l nm := by unfold dropF; rw [List.filter_cons, if_pos (by simp [hp])]
      have := ih hf
      rw [h1, sumN_cons, sumN_cons]
      omega

/-! ### the writes' order -/
def wl (f : FileM) : Nat := f.writes.length
structure TurnF (t : Nat) (f : FileM) : Prop where
  up : f.writes.Pairwise fun a b => a.turn < b.turn
  le : ∀ x ∈ f.writes, x.turn ≤ (t : Int)
theorem TurnF.nil (t : Nat) (f : FileM) (h : f.writes = []) : TurnF t f := ⟨by rw [h]; exact List.Pairwise.nil, fun x hx => by rw [h] at hx; cases hx⟩
theorem TurnF.more {t t' : Nat} {f : FileM} (h : TurnF t f) (ht : t ≤ t') : TurnF t' f := ⟨h.up, fun x hx => by have := h.le x hx; omega⟩
theorem TurnF.add {t : Nat} {f : FileM} (h : TurnF t f) (a : Nat) (s : ByteArray) : TurnF (t + 1) (addF f ⟨(t : Int) + 1, a, s⟩) := by
  refine ⟨?_, fun x hx => ?_⟩
  · show (f.writes ++ [_]).Pairwise _
    rw [List.pairwise_append]
    refine ⟨h.up, List.pairwise_singleton _ _, fun x hx y hy => ?_⟩
    simp at hy
    subst hy
    have := h.le x hx
    show x.turn < (t : Int) + 1
    omega
  · rcases List.mem_append.1 (show x ∈ f.writes ++ [_] from hx) with h1 | h1
    · have := h.le x h1
      omega
    · simp at h1
      subst h1
      show (t : Int) + 1 ≤ _
      omega
structure KeepOk (n : Nat) (st : St) : Prop where
  good : Good n st
  lit : st.lit = false
  down : st.down = false
  turns : ∀ p ∈ st.fs, TurnF st.turn p.2
  waits : sumN wl st.fs ≤ n
  names : ∀ p ∈ st.fs, p.1.size ≤ 20
theorem keep_new (c : Int) : KeepOk 0 (newSt c) := ⟨Good.new c, rfl, rfl, fun p hp => (by cases hp), Nat.le_refl _, fun p hp => (by cases hp)⟩
/-- What of a state the order of the writes wants. -/
def K3 (n : Nat) (st : St) : Prop := (∀ p ∈ st.fs, TurnF st.turn p.2) ∧ sumN wl st.fs ≤ n ∧ ∀ p ∈ st.fs, p.1.size ≤ 20
theorem K3.more {n m : Nat} {st : St} (h : K3 n st) (hm : n ≤ m) : K3 m st := ⟨h.1, Nat.le_trans h.2.1 hm, h.2.2⟩
theorem K3.set {n m : Nat} {st : St} (h : K3 n st) (hn : (st.fs.map (·.1)).Nodup) {nm : ByteArray} {f : FileM} (hf : st.find nm = some f) (f' : FileM) (t : Nat) (sz : Nat) (ht : st.turn ≤ t) (h1 : TurnF t f') (h2 : wl f' + n ≤ wl f + m) :
    K3 m { st with size := sz, turn := t, fs := setF st.fs nm f' } := by
  refine ⟨fun p hp => ?_, ?_, fun p hp => ?_⟩
  · rcases mem_setF hp with h3 | rfl
    · exact (h.1 p h3).more ht
    · exact h1
  · have h3 := sumN_setF wl f' hn hf
    have h4 := h.2.1
    show sumN wl (setF st.fs nm f') ≤ m
    omega
  · rcases mem_setF hp with h3 | rfl
    · exact h.2.2 p h3
    · have := h.2.2 _ (find_mem hf)
      exact this
theorem K3.sync1 {n : Nat} {st : St} (h : K3 n st) (hn : (st.fs.map (·.1)).Nodup) (nm : ByteArray) : K3 n (sync1 st nm) := by
  unfold Go.Proofs.Ytmoehmclcegmnaa.sync1
  split
  · exact h
  · rename_i f hf
    exact h.set hn hf (syncF f) st.turn st.size (Nat.le_refl _) (TurnF.nil _ _ rfl) (by show 0 + n ≤ _; omega)
theorem K3.syncAll {n : Nat} {st : St} (h : K3 n st) (hg : Good n st) (ts : List ByteArray) : K3 n (syncAll st ts) := by
  unfold Go.Proofs.Ytmoehmclcegmnaa.syncAll
  induction ts generalizing st with
  | nil => exact h
  | cons t ts ih => exact ih (h.sync1 hg.names t) (hg.sync1 t)
theorem K3.drop {n : Nat} {st : St} (h : K3 n st) (nm : ByteArray) (sz : Nat) : K3 n { st with size := sz, fs := dropF st.fs nm } :=
  ⟨fun p hp => h.1 p (List.mem_filter.1 hp).1, Nat.le_trans (sumN_dropF_le wl st.fs nm) h.2.1, fun p hp => h.2.2 p (List.mem_filter.1 hp).1⟩
theorem K3.deleteAll {n : Nat} {st : St} (h : K3 n st) (ts : List ByteArray) : K3 n (deleteAll st ts) := by
  unfold Go.Proofs.Ytmoehmclcegmnaa.deleteAll
  induction ts generalizing st with
  | nil => exact h
  | cons t ts ih => exact ih (h.drop t _)
theorem KeepOk.doS {n : Nat} {st : St} (h : KeepOk n st) (o : OpM) (hk : o.kind ≤ 5) (hm : o.at_ ≤ 9223372036854775807) (hs : Small o) : KeepOk (n + 1) (doS st o) := by
  have hg := h.good
  have hb : burnS st = st := burnS_off h.lit
  have hr := rest3_doS o h.lit hk
  have h3 : K3 n st := ⟨h.turns, h.waits, h.names⟩
  have h4 : K3 (n + 1) (Go.Proofs.Ytmoehmclcegmnaa.doS st o) := by
    have h0 := h3.more (Nat.le_succ n)
    unfold Go.Proofs.Ytmoehmclcegmnaa.doS
    split
    · unfold createS
      rw [hb]
      (repeat' split) <;> try exact h0
      refine ⟨fun p hp => ?_, ?_, fun p hp => ?_⟩
      · rcases List.mem_append.1 hp with h1 | h1
        · exact h.turns p h1
        · simp at h1; subst h1; exact TurnF.nil _ _ rfl
      · show sumN wl (st.fs ++ [(o.name, emptyF)]) ≤ n + 1
        rw [sumN_append]
        have : sumN wl [(o.name, emptyF)] = 0 := rfl
        have := h.waits
        omega
      · rcases List.mem_append.1 hp with h1 | h1
        · exact h.names p h1
        · simp at h1; subst h1; exact hs.1
    split
    · unfold writeS
      rw [hb]
      (repeat' split) <;> try exact h0
      rename_i f hf _ _ _ _
      exact h3.set hg.names hf _ _ _ (Nat.le_succ _) ((h.turns _ (find_mem hf)).add _ _) (by show (f.writes ++ [_]).length + n ≤ f.writes.length + (n + 1); simp; omega)
    split
    · unfold syncS
      rw [hb]
      (repeat' split) <;> try exact h0
      exact (h3.syncAll hg _).more (Nat.le_succ n)
    split
    · unfold cutS
      rw [hb]
      (repeat' split) <;> try exact h0
      rename_i f hf _ _
      exact (h3.set hg.names hf (cutF f _) st.turn _ (Nat.le_refl _) (TurnF.nil _ _ rfl) (by show 0 + n ≤ _ + n; omega)).more (Nat.le_succ n)
    split
    · unfold renameS
      rw [hb]
      (repeat' split) <;> try exact h0
      rename_i f hf _ hab
      have hmem := find_mem hf
      refine ⟨fun p hp => ?_, ?_, fun p hp => ?_⟩
      · rcases List.mem_append.1 (show p ∈ dropF (dropF st.fs o.to_) o.name ++ [(o.to_, f)] from hp) with h1 | h1
        · exact h.turns p (List.mem_filter.1 (List.mem_filter.1 h1).1).1
        · simp at h1; subst h1; exact h.turns (o.name, f) hmem
      · show sumN wl (dropF (dropF st.fs o.to_) o.name ++ [(o.to_, f)]) ≤ n + 1
        have h5 : ((dropF st.fs o.to_).find? fun p => decide (p.1 = o.name)).map (·.2) = some f := by rw [find_dropF hab]; exact hf
        have h6 := sumN_dropF wl h5
        have h7 := sumN_dropF_le wl st.fs o.to_
        have h8 : sumN wl [(o.to_, f)] = wl f := Nat.add_zero _
        have := h.waits
        rw [sumN_append, h8]
        omega
      · rcases List.mem_append.1 (show p ∈ dropF (dropF st.fs o.to_) o.name ++ [(o.to_, f)] from hp) with h1 | h1
        · exact h.names p (List.mem_filter.1 (List.mem_filter.1 h1).1).1
        · simp at h1; subst h1; exact hs.2.1
    split
    · unfold deleteS
      rw [hb]
      (repeat' split) <;> try exact h0
      exact (h3.deleteAll _).more (Nat.le_succ n)
    split
    · omega
    · exact h0
  have e1 := congrArg (fun p : Bool × Bool × Nat => p.1) hr
  have e2 := congrArg (fun p : Bool × Bool × Nat => p.2.1) hr
  exact ⟨hg.doS o hm, e1.trans h.lit, e2.trans h.down, h4.1, h4.2.1, h4.2.2⟩

/-! ### a crash that keeps all -/
theorem perm_sorted {l2 : List WriteM} : ∀ {l1 : List WriteM}, l1.Perm l2 → (l1.Pairwise fun a b => a.turn ≤ b.turn) → (l2.Pairwise fun a b => a.turn < b.turn) → l1 = l2 := by
  induction l2 with
  | nil => intro l1 hp _ _; exact hp.eq_nil
  | cons b l2 ih =>
    intro l1 hp h1 h2
    cases l1 with
    | nil => exact absurd hp.symm.eq_nil (by simp)
    | cons a l1 =>
      rw [List.pairwise_cons] at h1 h2
      have hab : a = b := by
        rcases List.mem_cons.1 (hp.mem_iff.1 (List.mem_cons_self ..)) with h | h
        · exact h
        · have h3 := h2.1 a h
          rcases List.mem_cons.1 (hp.mem_iff.2 (List.mem_cons_self ..)) with h4 | h4
          · exact h4.symm
          · have := h1.1 b h4
            omega
      subst hab
      rw [ih (List.Perm.cons_inv hp) h1.2 h2.2]
theorem img_cons (l : List Sk) (z : WaitM) (d : List WaitM) : imgs l (z :: d) = imgs (img l z) d := rfl
/-- Each file's image takes the writes to it, in order. -/
def takeAll (d : List WaitM) (p : Sk) : Sk := (p.1, p.2.1, { p.2.2 with image := putAll p.2.2.image ((d.filter fun z => decide (p.2.1 = z.to_)).map (·.x)) })
theorem imgs_all (l : List Sk) (d : List WaitM) : imgs l d = l.map (takeAll d) := by
  induction d generalizing l with
  | nil =>
    show l = _
    symm
    refine (List.map_congr_left fun p _ => ?_).trans (List.map_id _)
    rfl
  | cons z d ih =>
    rw [img_cons, ih]
    unfold img
    rw [List.map_map]
    refine List.map_congr_left fun p _ => ?_
    simp only [Function.comp]
    by_cases hz : p.2.1 = z.to_
    · rw [img1_eq hz]
      unfold takeAll imgF
      simp only
      rw [List.filter_cons, if_pos (by simp [hz])]
      rfl
    · rw [img1_ne hz]
      unfold takeAll
      simp only
      rw [List.filter_cons, if_neg (by simp [hz])]
theorem blks_sub (es : List Ent) : (es.map (·.blk)).Sublist (es.flatMap Ent.foot) := by
  induction es with
  | nil => exact List.Sublist.refl _
  | cons e es ih =>
    rw [List.map_cons, List.flatMap_cons]
    unfold Ent.foot
    rw [List.cons_append]
    exact List.Sublist.cons_cons _ (ih.trans (List.sublist_append_right _ _))
theorem blks_nodup {w : World} {g : Gh} {st : St} (h : DiskAt w g st) : (g.es.map (·.blk)).Nodup := by
  have hap := h.apart
  unfold Gh.fp at hap
  rw [List.nodup_cons, List.nodup_append] at hap
  exact hap.2.2.1.sublist (blks_sub _)
theorem waits_filter {es : List Ent} (hn : (es.map (·.blk)).Nodup) {e : Ent} (he : e ∈ es) : ((waitsOf es).filter fun z => decide (e.blk = z.to_)).map (·.x) = e.f.writes := by
  induction es with
  | nil => cases he
  | cons a es ih =>
    rw [List.map_cons, List.nodup_cons] at hn
    have h1 : waitsOf (a :: es) = waitsE1 a ++ waitsOf es := rfl
    rw [h1, List.filter_append, List.map_append]
    have hself : ((waitsE1 a).filter fun z => decide (a.blk = z.to_)).map (·.x) = a.f.writes := by
      unfold waitsE1
      rw [List.filter_eq_self.2 (fun z hz => by obtain ⟨x, _, rfl⟩ := List.mem_map.1 hz; simp), List.map_map]
      exact (List.map_congr_left fun _ _ => rfl).trans (List.map_id _)
    rcases List.mem_cons.1 he with rfl | he'
    · rw [hself, List.filter_eq_nil_iff.2, List.map_nil, List.append_nil]
      intro z hz hd
      obtain ⟨e', he', h4, _⟩ := waits_mem hz
      exact hn.1 (List.mem_map.2 ⟨e', he', h4.trans (of_decide_eq_true hd).symm⟩)
    · have hne : ¬ e.blk = a.blk := fun hx => hn.1 (hx ▸ List.mem_map_of_mem he')
      have hnil : (waitsE1 a).filter (fun z => decide (e.blk = z.to_)) = [] := by
        rw [List.filter_eq_nil_iff]
        intro z hz hd
        unfold waitsE1 at hz
        obtain ⟨x, _, rfl⟩ := List.mem_map.1 hz
        exact hne (of_decide_eq_true hd)
      rw [hnil, List.map_nil, List.nil_append, ih hn.2 he']
theorem keepL_all (l : List WaitM) (n : Nat) (h : l.length ≤ n) : keepL l (List.replicate n true) = l := by
  unfold keepL
  have h1 : l.zip (List.replicate n true) = l.map fun z => (z, true) := by
    induction l generalizing n with
    | nil => rfl
    | cons z l ih =>
      obtain ⟨m, rfl⟩ : ∃ m, n = m + 1 := ⟨n - 1, by simp at h; omega⟩
      rw [List.replicate_succ, List.zip_cons_cons, List.map_cons, ih m (by simp at h; omega)]
  rw [h1, List.filter_eq_self.2 (fun z hz => by obtain ⟨x, _, rfl⟩ := List.mem_map.1 hz; rfl), List.map_map]
  exact (List.map_congr_left fun _ _ => rfl).trans (List.map_id _)
theorem cutLast_zero (l : List WaitM) : cutLast l 0 = l := by
  rcases List.eq_nil_or_concat l with h0 | ⟨d, z, h0⟩
  · subst h0; rfl
  · rw [List.concat_eq_append] at h0
    subst h0
    rw [cutLast_snoc]
    have hz : lackX z.x 0 = z.x := by
      unfold lackX
      have : z.x.s.size - (min (max (0 : Int) 0) z.x.s.size).toNat = z.x.s.size := by omega
      rw [this]
      have e : z.x.s.extract 0 z.x.s.size = z.x.s := by
        apply ByteArray.ext
        rw [ByteArray.data_extract]
        show z.x.s.data.extract 0 z.x.s.data.size = _
        simp
      rw [e]
    rw [hz]
def whole (p : ByteArray × FileM) : ByteArray × FileM := (p.1, ⟨p.2.bytes, p.2.bytes, []⟩)
theorem crash_all {n : Nat} {w : World} {g : Gh} {st : St} {l : List WaitM} (h : DiskAt w g st) (hk : KeepOk n st) (hp : l.Perm (waitsOf g.es)) (hs : Sorted l) :
    crashS st (imgs (g.es.map skel) l) = ⟨false, false, 0, st.cap, st.size, st.turn, st.fs.map whole⟩ := by
  have hsk : imgs (g.es.map skel) l = g.es.map fun e => (e.name, e.blk, ({ e.f with image := e.f.bytes } : FileM)) := by
    rw [imgs_all, List.map_map]
    refine List.map_congr_left fun e he => ?_
    simp only [Function.comp]
    have hf : nf e ∈ st.fs := by rw [← h.fs]; exact List.mem_map_of_mem he
    have h1 : ((l.filter fun z => decide (e.blk = z.to_)).map (·.x)) = e.f.writes := by
      refine perm_sorted ?_ ?_ (hk.turns _ hf).up
      · rw [← waits_filter (blks_nodup h) he]
        exact (hp.filter _).map _
      · rw [List.pairwise_map]
        exact List.Pairwise.sublist List.filter_sublist hs
    unfold takeAll skel
    simp only
    have hb : e.f.bytes = putAll e.f.image e.f.writes := (hk.good.files _ hf).bytes
    rw [h1, ← hb]
  have hl : ∀ f : FileM, loseF { f with image := f.bytes } = ⟨f.bytes, f.bytes, []⟩ := fun f => by
    unfold loseF
    split
    · rename_i hw
      have hw : f.writes = [] := hw
      rw [hw]
    · rfl
  rw [hsk]
  unfold crashS
  rw [List.map_map, List.map_map]
  have e1 : ((fun p : Sk => (loseF p.2.2).bytes.length) ∘ fun e : Ent => (e.name, e.blk, ({ e.f with image := e.f.bytes } : FileM))) = (fun p : ByteArray × FileM => p.2.bytes.length) ∘ nf := by
    funext e
    simp only [Function.comp, hl]
    rfl
  have e2 : ((fun p : Sk => (p.1, loseF p.2.2)) ∘ fun e : Ent => (e.name, e.blk, ({ e.f with image := e.f.bytes } : FileM))) = whole ∘ nf := by
    funext e
    simp only [Function.comp, hl]
    rfl
  rw [e1, e2, ← List.map_map, ← List.map_map, h.fs]
  have hsum := hk.good.sum
  unfold sumB at hsum
  rw [← hsum]
end Go.Proofs.Ytmoehmclcegmnaa
