/-
  The disk in memory: a file changes, one goes, one comes.
-/
import Derived.Test.YtgephceihkkokaaGreatDoorDRead
namespace Go.Proofs.YtgephceihkkokaaGreatDoor
open Go.RowKit Go.Deep

def rest (g : Gh) (es : List Ent) : List Nat := g.d :: (g.mb.toList ++ es.flatMap Ent.foot)
theorem fp_perm (g : Gh) {l1 l2 : List Ent} {e : Ent} (h : g.es = l1 ++ e :: l2) : g.fp.Perm (e.foot ++ rest g (l1 ++ l2)) := by
  unfold Gh.fp rest
  rw [h, List.flatMap_append, List.flatMap_cons, List.flatMap_append]
  generalize e.foot = A
  generalize l1.flatMap Ent.foot = B
  generalize l2.flatMap Ent.foot = C
  generalize g.mb.toList = M
  have h1 : (B ++ (A ++ C)).Perm (A ++ (B ++ C)) := List.perm_append_comm_assoc B A C
  have h2 : (M ++ (B ++ (A ++ C))).Perm (A ++ (M ++ (B ++ C))) := (List.Perm.append_left M h1).trans (List.perm_append_comm_assoc M A (B ++ C))
  exact (h2.cons g.d).trans (List.perm_middle (a := g.d) (l₁ := A) (l₂ := M ++ (B ++ C))).symm

def setE (es : List Ent) (e' : Ent) : List Ent := es.map fun x => if x.name = e'.name then e' else x
def setF (fs : List (ByteArray × FileM)) (nm : ByteArray) (f : FileM) : List (ByteArray × FileM) := fs.map fun p => if p.1 = nm then (nm, f) else p
theorem setE_split {l1 l2 : List Ent} {e e' : Ent} (hn : (names (l1 ++ e :: l2)).Nodup) (h : e'.name = e.name) : setE (l1 ++ e :: l2) e' = l1 ++ e' :: l2 := by
  unfold names at hn
  rw [List.map_append, List.map_cons, List.nodup_append, List.nodup_cons] at hn
  obtain ⟨_, ⟨h1, _⟩, h2⟩ := hn
  unfold setE
  rw [List.map_append, List.map_cons, if_pos h.symm]
  congr 1
  · refine (List.map_congr_left fun x hx => ?_).trans (List.map_id _)
    rw [if_neg]
    · rfl
    · intro hq
      exact h2 _ (List.mem_map_of_mem hx) _ (List.mem_cons_self ..) (hq.trans h)
  · congr 1
    refine (List.map_congr_left fun x hx => ?_).trans (List.map_id _)
    rw [if_neg]
    · rfl
    · intro hq
      exact h1 ((hq.trans h) ▸ List.mem_map_of_mem hx)
theorem setE_nf (es : List Ent) (e' : Ent) : (setE es e').map nf = setF (es.map nf) e'.name e'.f := by
  unfold setE setF
  rw [List.map_map, List.map_map]
  refine List.map_congr_left fun x _ => ?_
  simp only [Function.comp, nf]
  split <;> simp_all

theorem nodup_new {A A' R : List Nat} {n : Nat} (h : (A ++ R).Nodup) (h' : A'.Nodup) (hs : ∀ k ∈ A', k ∈ A ∨ n ≤ k) (hl : ∀ k ∈ R, k < n) : (A' ++ R).Nodup := by
  rw [List.nodup_append] at h ⊢
  refine ⟨h', h.2.1, fun a ha b hb hx => ?_⟩
  subst hx
  rcases hs a ha with h1 | h1
  · exact h.2.2 a h1 a hb rfl
  · have := hl a hb; omega

/-- A file changes. -/
theorem DiskAt.upd {w w' : World} {g : Gh} {st : St} {e e' : Ent} (h : DiskAt w g st) (he : e ∈ g.es) (ht : Ent.To w e e' w') :
    DiskAt w' { g with es := setE g.es e' } { st with fs := setF st.fs e.name e'.f } ∧ Gh.To w g { g with es := setE g.es e' } w' := by
  obtain ⟨l1, l2, hes⟩ := List.append_of_mem he
  have hsp : setE g.es e' = l1 ++ e' :: l2 := by rw [hes]; exact setE_split (hes ▸ h.map.1) ht.name
  have hlt := h.lt
  have hap := (fp_perm g hes).nodup_iff.1 h.apart
  have hrl : ∀ k ∈ rest g (l1 ++ l2), k < w.heap.size := fun k hk => hlt k ((fp_perm g hes).mem_iff.2 (List.mem_append_right _ hk))
  have hdj : ∀ k ∈ rest g (l1 ++ l2), k ∉ e.foot := fun k hk hx => (List.nodup_append.1 hap).2.2 k hx k hk rfl
  have hm : ∀ {x : Ent}, x ∈ l1 ∨ x ∈ l2 → ∀ k ∈ x.foot, k ∈ rest g (l1 ++ l2) := fun hx k hk => by
    unfold rest
    exact List.mem_cons_of_mem _ (List.mem_append_right _ (List.mem_flatMap.2 ⟨_, List.mem_append.2 hx, hk⟩))
  have hfp : ({ g with es := setE g.es e' } : Gh).fp.Perm (e'.foot ++ rest g (l1 ++ l2)) := fp_perm { g with es := setE g.es e' } hsp
  refine ⟨⟨?_, ?_, ?_, ?_, ?_⟩, ⟨?_, ?_, rfl⟩⟩
  · exact ht.chg.heap h.head (hdj _ (List.mem_cons_self ..))
  · refine (h.map.chg ht.chg (fun m hmb => hdj m ?_)).same ?_
    · unfold rest; rw [hmb]; simp
    · rw [hsp, hes, List.map_append, List.map_append, List.map_cons, List.map_cons, ht.name, ht.blk]
  · intro x hx
    rw [hsp] at hx
    rcases List.mem_append.1 hx with h1 | h1
    · refine (h.ents x (hes ▸ List.mem_append_left _ h1)).chg ht.chg (fun k hk => hdj k (hm (.inl h1) k hk))
    · rcases List.mem_cons.1 h1 with rfl | h1
      · exact ht.at_
      · refine (h.ents x (hes ▸ List.mem_append_right _ (List.mem_cons_of_mem _ h1))).chg ht.chg (fun k hk => hdj k (hm (.inr h1) k hk))
  · exact hfp.nodup_iff.2 (nodup_new hap ht.at_.apart ht.foot hrl)
  · rw [setE_nf, h.fs, ht.name]
  · exact ht.chg.wide (fun k _ hk => (fp_perm g hes).mem_iff.2 (List.mem_append_left _ hk))
  · intro k hk
    rcases List.mem_append.1 (hfp.mem_iff.1 hk) with h1 | h1
    · rcases ht.foot k h1 with h2 | h2
      · exact .inl ((fp_perm g hes).mem_iff.2 (List.mem_append_left _ h2))
      · exact .inr h2
    · exact .inl ((fp_perm g hes).mem_iff.2 (List.mem_append_right _ h1))

def dropF (fs : List (ByteArray × FileM)) (nm : ByteArray) : List (ByteArray × FileM) := fs.filter fun p => !decide (p.1 = nm)
theorem without_nf (es : List Ent) (nm : ByteArray) : (without es nm).map nf = dropF (es.map nf) nm := by
  unfold without dropF
  rw [List.filter_map]
  rfl
theorem fp_without (g : Gh) (nm : ByteArray) : ({ g with es := without g.es nm } : Gh).fp.Sublist g.fp := by
  unfold Gh.fp without
  refine List.Sublist.cons_cons _ ((List.Sublist.refl _).append ?_)
  simp only
  generalize g.es = l
  induction l with
  | nil => exact List.Sublist.refl _
  | cons x l ih =>
    rw [List.filter_cons, List.flatMap_cons]
    split
    · rw [List.flatMap_cons]; exact (List.Sublist.refl _).append ih
    · exact ih.trans (List.sublist_append_right _ _)

/-- A name goes out of the map. -/
theorem DiskAt.drop {w w' : World} {g : Gh} {st : St} (h : DiskAt w g st) (nm : ByteArray) (hm : MapIn w' g.mb (without g.es nm)) (hg : w.grownBy w' g.mb) :
    DiskAt w' { g with es := without g.es nm } { st with fs := dropF st.fs nm } ∧ Gh.To w g { g with es := without g.es nm } w' := by
  have hc : Chg (fun k => some k = g.mb) w w' := Chg.of_grown hg (fun k hk _ => hk.symm)
  have hap := h.apart
  unfold Gh.fp at hap
  rw [List.nodup_cons, List.nodup_append] at hap
  refine ⟨⟨?_, hm, ?_, (fp_without g nm).nodup h.apart, ?_⟩, ⟨?_, fun k hk => .inl ((fp_without g nm).mem hk), rfl⟩⟩
  · refine hc.heap h.head (fun hx => hap.1 ?_)
    rw [← hx]; simp
  · intro e he
    have he' : e ∈ g.es := (List.mem_filter.1 he).1
    refine (h.ents e he').chg hc (fun k hk hx => hap.2.2.2 k ?_ k (List.mem_flatMap.2 ⟨e, he', hk⟩) rfl)
    rw [← hx]; simp
  · show (without g.es nm).map nf = _
    rw [without_nf, h.fs]
  · exact hc.wide (fun k _ hk => mem_fp_mb g hk.symm)

/-- A file comes, under a name that is new: its blocks are new, or were nobody's. -/
theorem DiskAt.come {w w' : World} {g : Gh} {st : St} {m : Nat} {e : Ent} (h : DiskAt w g st) (hmb : g.mb = some m) (hm : MapIn w' (some m) (g.es ++ [e])) (hg : w.grownBy w' (some m)) (he : EntAt w e) (hd : ∀ k ∈ e.foot, k ∉ g.fp) :
    DiskAt w' { g with es := g.es ++ [e] } { st with fs := st.fs ++ [nf e] } ∧ Chg (· ∈ g.fp) w w' := by
  have hc : Chg (fun k => k = m) w w' := Chg.of_grown hg (fun k hk _ => by cases hk; rfl)
  have hap := h.apart
  unfold Gh.fp at hap
  rw [hmb, List.nodup_cons, List.nodup_append] at hap
  have hmm : m ∈ g.fp := mem_fp_mb g hmb
  refine ⟨⟨?_, ?_, ?_, ?_, ?_⟩, hc.wide (fun k _ hk => hk ▸ hmm)⟩
  · refine hc.heap h.head (fun hx => hap.1 ?_)
    rw [hx]; simp
  · show MapIn w' g.mb _
    rw [hmb]; exact hm
  · intro x hx
    rcases List.mem_append.1 hx with h1 | h1
    · exact (h.ents x h1).chg hc (fun k hk hx => hap.2.2.2 m (by simp) k (List.mem_flatMap.2 ⟨x, h1, hk⟩) hx.symm)
    · simp at h1
      subst h1
      exact he.chg hc (fun k hk hx => hd k hk (hx ▸ hmm))
  · have e1 : ({ g with es := g.es ++ [e] } : Gh).fp = g.fp ++ e.foot := by
      unfold Gh.fp
      rw [List.flatMap_append]
      simp
    rw [e1, List.nodup_append]
    exact ⟨h.apart, he.apart, fun a ha b hb hx => hd b hb (hx ▸ ha)⟩
  · show (g.es ++ [e]).map nf = _
    rw [List.map_append, h.fs]
    rfl
end Go.Proofs.YtgephceihkkokaaGreatDoor
