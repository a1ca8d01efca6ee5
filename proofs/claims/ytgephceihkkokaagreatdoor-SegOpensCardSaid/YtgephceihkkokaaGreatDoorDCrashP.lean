/-
  What a crash does, on lists.
-/
import Derived.Test.YtgephceihkkokaaGreatDoorDKept
namespace Go.Proofs.YtgephceihkkokaaGreatDoor
open Go.RowKit Go.Deep

abbrev Sk := ByteArray × Nat × FileM
def skel (e : Ent) : Sk := (e.name, e.blk, e.f)
def imgF (f : FileM) (x : WriteM) : FileM := { f with image := putB f.image x.at_ x.s.data.toList }
/-- A write is done to its file's image. -/
def img1 (z : WaitM) (p : Sk) : Sk := if p.2.1 = z.to_ then (p.1, p.2.1, imgF p.2.2 z.x) else p
theorem img1_eq {p : Sk} {z : WaitM} (h : p.2.1 = z.to_) : img1 z p = (p.1, p.2.1, imgF p.2.2 z.x) := if_pos h
theorem img1_ne {p : Sk} {z : WaitM} (h : ¬ p.2.1 = z.to_) : img1 z p = p := if_neg h
def img (l : List Sk) (z : WaitM) : List Sk := l.map (img1 z)
def imgs (l : List Sk) (d : List WaitM) : List Sk := d.foldl img l
theorem imgs_snoc (l : List Sk) (d : List WaitM) (z : WaitM) : imgs l (d ++ [z]) = img (imgs l d) z := by simp [imgs]
def fsOf (l : List Sk) : List (ByteArray × FileM) := l.map fun p => (p.1, p.2.2)
theorem fsOf_skel (es : List Ent) : fsOf (es.map skel) = es.map nf := by
  unfold fsOf
  rw [List.map_map]
  rfl
def blksOf (l : List Sk) : List (ByteArray × Nat) := l.map fun p => (p.1, p.2.1)
theorem blks_img (l : List Sk) (z : WaitM) : blksOf (img l z) = blksOf l := by
  unfold blksOf img
  rw [List.map_map]
  refine List.map_congr_left fun p _ => ?_
  simp only [Function.comp, img1]
  split <;> rfl
theorem blks_imgs (l : List Sk) (d : List WaitM) : blksOf (imgs l d) = blksOf l := by
  unfold imgs
  induction d generalizing l with
  | nil => rfl
  | cons z d ih => rw [List.foldl_cons, ih, blks_img]

/-- Two files of one disk with one block are one. -/
theorem blk_one {w : World} {g : Gh} {st : St} (h : DiskAt w g st) {a b : Ent} (ha : a ∈ g.es) (hb : b ∈ g.es) (hx : a.blk = b.blk) : a = b := by
  obtain ⟨l1, l2, hes⟩ := List.append_of_mem ha
  have hap := (fp_perm g hes).nodup_iff.1 h.apart
  rw [hes] at hb
  have hr : ∀ x, x ∈ l1 ∨ x ∈ l2 → x.blk ≠ a.blk := fun x hx' he => by
    refine (List.nodup_append.1 hap).2.2 a.blk (mem_foot_blk a) a.blk ?_ rfl
    unfold rest
    rw [← he]
    exact List.mem_cons_of_mem _ (List.mem_append_right _ (List.mem_flatMap.2 ⟨x, List.mem_append.2 hx', mem_foot_blk x⟩))
  rcases List.mem_append.1 hb with h1 | h1
  · exact absurd hx.symm (hr b (.inl h1))
  · rcases List.mem_cons.1 h1 with rfl | h1
    · rfl
    · exact absurd hx.symm (hr b (.inr h1))
theorem setE_img {w : World} {g : Gh} {st : St} (h : DiskAt w g st) {e e' : Ent} (he : e ∈ g.es) (hn : e'.name = e.name) (hb : e'.blk = e.blk) (x : WriteM) (hf : e'.f = imgF e.f x) :
    (setE g.es e').map skel = img (g.es.map skel) ⟨x, e.blk⟩ := by
  unfold setE img
  rw [List.map_map, List.map_map]
  refine List.map_congr_left fun y hy => ?_
  simp only [Function.comp]
  by_cases hq : y.blk = e.blk
  · obtain rfl := blk_one h hy he hq
    rw [if_pos hn.symm, img1_eq (p := skel y) (z := ⟨x, y.blk⟩) rfl]
    simp only [skel]
    rw [hn, hb, hf]
  · rw [img1_ne (p := skel y) (z := ⟨x, e.blk⟩) hq, if_neg]
    intro hx
    have h1 := getE_of h.map.1 hy
    have h2 := getE_of h.map.1 he
    rw [hx, hn, h2] at h1
    exact hq (by cases h1; rfl)

theorem keep_sub {l : List WaitM} {bs : List Bool} {lack : Int} {z : WaitM} (h : z ∈ cutLast (keepL l bs) lack) : ∃ y ∈ l, y.to_ = z.to_ ∧ y.x.at_ = z.x.at_ ∧ z.x.s.size ≤ y.x.s.size := by
  rcases List.eq_nil_or_concat (keepL l bs) with h0 | ⟨d0, y, h0⟩
  · rw [h0, cutLast_nil] at h; cases h
  · rw [List.concat_eq_append] at h0
    rw [h0, cutLast_snoc] at h
    rcases List.mem_append.1 h with h1 | h1
    · exact ⟨z, keepL_mem (by rw [h0]; exact List.mem_append_left _ h1), rfl, rfl, Nat.le_refl _⟩
    · simp at h1
      subst h1
      refine ⟨y, keepL_mem (by rw [h0]; simp), rfl, rfl, ?_⟩
      simp only [lackX]
      rw [ByteArray.size_extract]
      omega
theorem waits_mem {es : List Ent} {z : WaitM} (h : z ∈ waitsOf es) : ∃ e ∈ es, e.blk = z.to_ ∧ z.x ∈ e.f.writes := by
  unfold waitsOf at h
  obtain ⟨e, he, hz⟩ := List.mem_flatMap.1 h
  obtain ⟨x, hx, rfl⟩ := List.mem_map.1 hz
  exact ⟨e, he, rfl, hx⟩

/-- A file changes by a function. -/
def at1 (F : FileM → FileM) (b : Nat) (p : Sk) : Sk := if p.2.1 = b then (p.1, p.2.1, F p.2.2) else p
theorem setE_at {w : World} {g : Gh} {st : St} (h : DiskAt w g st) {e e' : Ent} (he : e ∈ g.es) (hn : e'.name = e.name) (hb : e'.blk = e.blk) (F : FileM → FileM) (hf : e'.f = F e.f) :
    (setE g.es e').map skel = (g.es.map skel).map (at1 F e.blk) := by
  unfold setE
  rw [List.map_map, List.map_map]
  refine List.map_congr_left fun y hy => ?_
  simp only [Function.comp]
  by_cases hq : y.blk = e.blk
  · obtain rfl := blk_one h hy he hq
    have h1 : at1 F y.blk (skel y) = ((skel y).1, (skel y).2.1, F (skel y).2.2) := if_pos rfl
    rw [if_pos hn.symm, h1]
    simp only [skel]
    rw [hn, hb, hf]
  · have h1 : at1 F e.blk (skel y) = skel y := if_neg hq
    rw [h1, if_neg]
    intro hx
    have h1 := getE_of h.map.1 hy
    have h2 := getE_of h.map.1 he
    rw [hx, hn, h2] at h1
    exact hq (by cases h1; rfl)
/-- Those files that were met have lost what waits. -/
def loseIf (vis : List Ent) (p : Sk) : Sk := if p.2.1 ∈ vis.map (·.blk) then (p.1, p.2.1, loseF p.2.2) else p
theorem loseIf_blk (vis : List Ent) (p : Sk) : (loseIf vis p).2.1 = p.2.1 := by unfold loseIf; split <;> rfl
theorem loseIf_snoc {vis : List Ent} {e : Ent} (he : e.blk ∉ vis.map (·.blk)) (p : Sk) : at1 loseF e.blk (loseIf vis p) = loseIf (vis ++ [e]) p := by
  by_cases hq : p.2.1 = e.blk
  · have h1 : loseIf vis p = p := if_neg (by rw [hq]; exact he)
    have h2 : loseIf (vis ++ [e]) p = (p.1, p.2.1, loseF p.2.2) := if_pos (by rw [hq]; simp)
    rw [h1, h2]
    exact if_pos hq
  · have h1 : at1 loseF e.blk (loseIf vis p) = loseIf vis p := if_neg (by rw [loseIf_blk]; exact hq)
    rw [h1]
    unfold loseIf
    by_cases hv : p.2.1 ∈ vis.map (·.blk)
    · rw [if_pos hv, if_pos (by rw [List.map_append]; exact List.mem_append_left _ hv)]
    · rw [if_neg hv, if_neg (by rw [List.map_append]; intro hx; rcases List.mem_append.1 hx with h | h; exact hv h; simp at h; exact hq h)]
def sumL (vis : List Ent) : Nat := (vis.map fun e => (loseF e.f).bytes.length).sum
theorem sumL_append (a b : List Ent) : sumL (a ++ b) = sumL a + sumL b := by simp [sumL]
theorem sumL_perm {a b : List Ent} (h : a.Perm b) : sumL a = sumL b := (h.map _).sum_nat
theorem within_lose {f : FileM} {n : Nat} (h : Within f n) : Within (loseF f) n := by
  unfold loseF
  split
  · exact h
  · exact ⟨h.1, h.1, Nat.zero_le _, fun x hx => by cases hx⟩

/-- All files of a list are within so many bytes. -/
def SkIn (l : List Sk) (n : Nat) : Prop := ∀ p ∈ l, Within p.2.2 n
theorem SkIn.img {l : List Sk} {n : Nat} (h : SkIn l n) {z : WaitM} (hz : z.x.at_ + z.x.s.size ≤ n) : SkIn (img l z) n := by
  intro p hp
  obtain ⟨q, hq, rfl⟩ := List.mem_map.1 hp
  unfold img1
  split
  · have h1 := h q hq
    refine ⟨?_, h1.2⟩
    have h2 := putB_le q.2.2.image z.x.at_ z.x.s.data.toList
    have h3 : z.x.s.data.toList.length = z.x.s.size := by rw [Array.length_toList]; rfl
    have h4 := h1.1
    show (putB _ _ _).length ≤ n
    omega
  · exact h q hq
theorem SkIn.imgs {l : List Sk} {n : Nat} (h : SkIn l n) {d : List WaitM} (hd : ∀ z ∈ d, z.x.at_ + z.x.s.size ≤ n) : SkIn (imgs l d) n := by
  unfold Go.Proofs.YtgephceihkkokaaGreatDoor.imgs
  induction d generalizing l with
  | nil => exact h
  | cons z d ih => rw [List.foldl_cons]; exact ih (h.img (hd z (List.mem_cons_self ..))) (fun y hy => hd y (List.mem_cons_of_mem _ hy))
theorem DiskAt.refs {w : World} {g : Gh} {st : St} {fs : List (ByteArray × FileM)} (h : DiskAt w g { st with fs := fs }) {fs' : List (ByteArray × FileM)} (hf : g.es.map nf = fs') : DiskAt w g { st with fs := fs' } :=
  ⟨h.head, h.map, h.ents, h.apart, hf⟩
/-- The file that a block tells. -/
theorem ent_of {g1 : Gh} {l : List Sk} (h : blksOf (g1.es.map skel) = blksOf l) {b : Nat} (hb : ∃ p ∈ l, p.2.1 = b) : ∃ e ∈ g1.es, e.blk = b := by
  obtain ⟨p, hp, rfl⟩ := hb
  have h1 : (p.1, p.2.1) ∈ blksOf (g1.es.map skel) := by rw [h]; exact List.mem_map_of_mem hp
  obtain ⟨q, hq, hx⟩ := List.mem_map.1 h1
  obtain ⟨e, he, rfl⟩ := List.mem_map.1 hq
  exact ⟨e, he, congrArg Prod.snd hx⟩
end Go.Proofs.YtgephceihkkokaaGreatDoor
