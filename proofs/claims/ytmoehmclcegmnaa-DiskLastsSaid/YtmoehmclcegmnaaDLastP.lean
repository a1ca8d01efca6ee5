/-
  A file that was synced, and isn't named: it stays as it is, through all that is done to others, and all crashes.
-/
import Derived.Test.YtmoehmclcegmnaaDDo
namespace Go.Proofs.Ytmoehmclcegmnaa
open Go.RowKit Go.Deep

def fd (fs : List (ByteArray × FileM)) (a : ByteArray) : Option FileM := (fs.find? fun p => decide (p.1 = a)).map (·.2)
theorem find_fd (st : St) (a : ByteArray) : st.find a = fd st.fs a := rfl
theorem fd_setF (fs : List (ByteArray × FileM)) {a b : ByteArray} (f : FileM) (hab : a ≠ b) : fd (setF fs b f) a = fd fs a := by
  unfold fd setF
  congr 1
  induction fs with
  | nil => rfl
  | cons p l ih =>
    rw [List.map_cons]
    by_cases hp : p.1 = b
    · rw [if_pos hp, List.find?_cons_of_neg (by simp [Ne.symm hab]), List.find?_cons_of_neg (by simp [hp, Ne.symm hab]), ih]
    · rw [if_neg hp]
      by_cases hq : p.1 = a
      · rw [List.find?_cons_of_pos (by simp [hq]), List.find?_cons_of_pos (by simp [hq])]
      · rw [List.find?_cons_of_neg (by simp [hq]), List.find?_cons_of_neg (by simp [hq]), ih]
theorem fd_dropF (fs : List (ByteArray × FileM)) {a b : ByteArray} (hab : a ≠ b) : fd (dropF fs b) a = fd fs a := by unfold fd; rw [find_dropF hab]
theorem fd_snoc (fs : List (ByteArray × FileM)) {a b : ByteArray} (f : FileM) (hab : a ≠ b) : fd (fs ++ [(b, f)]) a = fd fs a := by
  unfold fd
  rw [List.find?_append, List.find?_cons_of_neg (by simp [Ne.symm hab])]
  simp
theorem fd_burn (st : St) (a : ByteArray) : fd (burnS st).fs a = fd st.fs a := by rw [burnS_fs]
/-- An operation that doesn't name a file, and is no crash, leaves it. -/
structure Spares (o : OpM) (a : ByteArray) : Prop where
  name : a ≠ o.name
  to_ : a ≠ o.to_
  names : a ∉ o.names
theorem sync1_find {st : St} {a b : ByteArray} (hab : a ≠ b) : (sync1 st b).find a = st.find a := by
  unfold sync1
  split
  · rfl
  · exact fd_setF _ _ hab
theorem syncAll_find {st : St} {a : ByteArray} {ts : List ByteArray} (h : a ∉ ts) : (syncAll st ts).find a = st.find a := by
  unfold syncAll
  induction ts generalizing st with
  | nil => rfl
  | cons t ts ih =>
    rw [List.mem_cons, not_or] at h
    rw [List.foldl_cons, ih h.2, sync1_find h.1]
theorem deleteAll_find {st : St} {a : ByteArray} {ts : List ByteArray} (h : a ∉ ts) : (deleteAll st ts).find a = st.find a := by
  unfold deleteAll
  induction ts generalizing st with
  | nil => rfl
  | cons t ts ih =>
    rw [List.mem_cons, not_or] at h
    rw [List.foldl_cons, ih h.2]
    exact fd_dropF _ h.1
theorem spares_find {st : St} {o : OpM} {a : ByteArray} (h : Spares o a) : (doS st o).find a = st.find a := by
  obtain ⟨h1, h2, h3⟩ := h
  unfold doS
  split
  · unfold createS
    (repeat' split) <;> first | rfl | exact burn_find _ _ | exact fd_snoc _ _ h1
  split
  · unfold writeS
    (repeat' split) <;> first | rfl | exact burn_find _ _ | exact fd_setF _ _ h1
  split
  · unfold syncS
    (repeat' split) <;> first | rfl | exact burn_find _ _ | exact (syncAll_find h3).trans (burn_find _ _)
  split
  · unfold cutS
    (repeat' split) <;> first | rfl | exact burn_find _ _ | exact fd_setF _ _ h1
  split
  · unfold renameS
    (repeat' split) <;> first | rfl | exact burn_find _ _ | (refine (fd_snoc _ _ h2).trans ((fd_dropF _ h1).trans ((fd_dropF _ h2).trans (fd_burn _ _))))
  split
  · unfold deleteS
    (repeat' split) <;> first | rfl | exact burn_find _ _ | exact (deleteAll_find h3).trans (burn_find _ _)
  split
  · rfl
  · rfl

/-- In a skeleton a file without writes has its bytes, whatever is done to others. -/
def SkHas (l : List Sk) (a : ByteArray) (f : FileM) (b : Nat) : Prop := (∀ p ∈ l, p.1 = a → p.2.2 = f ∧ p.2.1 = b) ∧ a ∈ l.map (·.1)
theorem SkHas.img {l : List Sk} {a : ByteArray} {f : FileM} {b : Nat} (h : SkHas l a f b) {z : WaitM} (hz : z.to_ ≠ b) : SkHas (img l z) a f b := by
  refine ⟨fun p hp ha => ?_, ?_⟩
  · obtain ⟨q, hq, rfl⟩ := List.mem_map.1 hp
    have h1 := sk3_img1 z q
    unfold sk3 at h1
    simp only [Prod.mk.injEq] at h1
    have h2 := h.1 q hq (h1.1 ▸ ha)
    rw [img1_ne (fun e => hz (by rw [← h2.2, e]))]
    exact h2
  · have h1 : (Go.Proofs.Ytmoehmclcegmnaa.img l z).map (·.1) = l.map (·.1) := by
      unfold Go.Proofs.Ytmoehmclcegmnaa.img
      rw [List.map_map]
      exact List.map_congr_left fun p _ => by
        have h1 := sk3_img1 z p
        unfold sk3 at h1
        simp only [Prod.mk.injEq] at h1
        exact h1.1
    rw [h1]
    exact h.2
theorem SkHas.imgs {l : List Sk} {a : ByteArray} {f : FileM} {b : Nat} (h : SkHas l a f b) {d : List WaitM} (hz : ∀ z ∈ d, z.to_ ≠ b) : SkHas (imgs l d) a f b := by
  unfold Go.Proofs.Ytmoehmclcegmnaa.imgs
  induction d generalizing l with
  | nil => exact h
  | cons z d ih =>
    rw [List.foldl_cons]
    exact ih (h.img (hz z (List.mem_cons_self ..))) (fun y hy => hz y (List.mem_cons_of_mem _ hy))
theorem crash_find {n : Nat} {w : World} {g : Gh} {st : St} {l : List WaitM} (bs : List Bool) (lack : Int) (h : DiskAt w g st) (hg : Good n st) (hp : l.Perm (waitsOf g.es)) {a : ByteArray} {f : FileM} (hf : st.find a = some f) (hw : f.writes = []) :
    (crashS st (imgs (g.es.map skel) (cutLast (keepL l bs) lack))).find a = some f := by
  obtain ⟨e, he, hge, hef, hen⟩ := h.found hf
  have h0 : SkHas (g.es.map skel) a f e.blk := by
    refine ⟨fun p hpm ha => ?_, List.mem_map.2 ⟨skel e, List.mem_map_of_mem he, hen⟩⟩
    obtain ⟨e', he', rfl⟩ := List.mem_map.1 hpm
    have h1 := getE_of h.map.1 he'
    have h2 : e'.name = a := ha
    rw [h2, hge] at h1
    obtain rfl := Option.some.inj h1
    exact ⟨hef, rfl⟩
  have h1 := h0.imgs (d := cutLast (keepL l bs) lack) (fun z hz hb => by
    obtain ⟨y, hy, h1, _, _⟩ := keep_sub hz
    obtain ⟨e', he', h4, h5⟩ := waits_mem (hp.mem_iff.1 hy)
    have h6 := blk_one h he' he (by rw [h4, h1, hb])
    subst h6
    rw [hef, hw] at h5
    cases h5)
  generalize imgs (g.es.map skel) (cutLast (keepL l bs) lack) = sk at h1
  show fd (sk.map fun p => (p.1, loseF p.2.2)) a = some f
  obtain ⟨h2, h3⟩ := h1
  have hl : loseF f = f := by unfold loseF; rw [if_pos hw]
  unfold fd
  rw [List.find?_map, Option.map_map]
  cases hq : sk.find? ((fun p => decide (p.1 = a)) ∘ fun p : Sk => (p.1, loseF p.2.2)) with
  | none =>
    obtain ⟨p, hp1, hp2⟩ := List.mem_map.1 h3
    have := List.find?_eq_none.1 hq p hp1
    simp [hp2] at this
  | some p =>
    have hm := List.mem_of_find?_eq_some hq
    have ha := List.find?_some hq
    have := h2 p hm (by simpa using ha)
    show some (loseF p.2.2) = some f
    rw [this.1, hl]
end Go.Proofs.Ytmoehmclcegmnaa
