/-
  What stays true of a disk behind a crash.
-/
import Derived.Test.YtgephceihkkokaaGreatDoorDGood
namespace Go.Proofs.YtgephceihkkokaaGreatDoor
open Go.RowKit Go.Deep

/-- What of a file a write to its image leaves. -/
def sk3 (p : Sk) : ByteArray × Nat × List UInt8 × List WriteM := (p.1, p.2.1, p.2.2.bytes, p.2.2.writes)
theorem sk3_img1 (z : WaitM) (p : Sk) : sk3 (img1 z p) = sk3 p := by unfold img1; split <;> rfl
theorem sk3_imgs (l : List Sk) (d : List WaitM) : (imgs l d).map sk3 = l.map sk3 := by
  unfold imgs
  induction d generalizing l with
  | nil => rfl
  | cons z d ih =>
    rw [List.foldl_cons, ih]
    unfold img
    rw [List.map_map]
    exact List.map_congr_left fun p _ => sk3_img1 z p
/-- Each image is no longer than its file, and a file with no write waiting is its image. -/
def SkImg (l : List Sk) : Prop := ∀ p ∈ l, p.2.2.image.length ≤ p.2.2.bytes.length ∧ (p.2.2.writes = [] → p.2.2.image = p.2.2.bytes)
def SkFits (l : List Sk) (z : WaitM) : Prop := ∀ p ∈ l, p.2.1 = z.to_ → z.x.at_ + z.x.s.size ≤ p.2.2.bytes.length ∧ p.2.2.writes ≠ []
theorem SkFits.img {l : List Sk} {y z : WaitM} (h : SkFits l z) : SkFits (img l y) z := by
  intro p hp hz
  obtain ⟨q, hq, rfl⟩ := List.mem_map.1 hp
  have h1 := sk3_img1 y q
  unfold sk3 at h1
  simp only [Prod.mk.injEq] at h1
  obtain ⟨_, h2, h3, h4⟩ := h1
  rw [h3, h4]
  exact h q hq (h2 ▸ hz)
theorem SkImg.img {l : List Sk} {z : WaitM} (h : SkImg l) (hz : SkFits l z) : SkImg (img l z) := by
  intro p hp
  obtain ⟨q, hq, rfl⟩ := List.mem_map.1 hp
  by_cases hb : q.2.1 = z.to_
  · rw [img1_eq hb]
    obtain ⟨h1, h2⟩ := hz q hq hb
    refine ⟨?_, fun hw => absurd hw h2⟩
    show (putB q.2.2.image z.x.at_ z.x.s.data.toList).length ≤ q.2.2.bytes.length
    have h3 := (h q hq).1
    by_cases hs : z.x.s.size = 0
    · have : z.x.s.data.toList = [] := List.length_eq_zero_iff.1 (by rw [text_len, hs])
      rw [this, putB_nil]
      exact h3
    · rw [putB_size _ _ _ hs]
      omega
  · rw [img1_ne hb]
    exact h q hq
theorem SkImg.imgs {l : List Sk} {d : List WaitM} (h : SkImg l) (hz : ∀ z ∈ d, SkFits l z) : SkImg (imgs l d) := by
  unfold Go.Proofs.YtgephceihkkokaaGreatDoor.imgs
  induction d generalizing l with
  | nil => exact h
  | cons z d ih =>
    rw [List.foldl_cons]
    exact ih (h.img (hz z (List.mem_cons_self ..))) (fun y hy => (hz y (List.mem_cons_of_mem _ hy)).img)
theorem sk_img {n : Nat} {w : World} {g : Gh} {st : St} {l : List WaitM} (bs : List Bool) (lack : Int) (h : DiskAt w g st) (hg : Good n st) (hp : l.Perm (waitsOf g.es)) : SkImg (imgs (g.es.map skel) (cutLast (keepL l bs) lack)) := by
  have hf : ∀ e ∈ g.es, GoodF n e.f := fun e he => hg.files (nf e) (by rw [← h.fs]; exact List.mem_map_of_mem he)
  refine SkImg.imgs ?_ ?_
  · intro p hp
    obtain ⟨e, he, rfl⟩ := List.mem_map.1 hp
    refine ⟨(hf e he).image, fun hw => ?_⟩
    have h1 := (hf e he).bytes
    have h2 : e.f.writes = [] := hw
    rw [h2] at h1
    exact h1.symm
  · intro z hz p hpm hb
    obtain ⟨y, hy, h1, h2, h3⟩ := keep_sub hz
    obtain ⟨e, he, h4, h5⟩ := waits_mem (hp.mem_iff.1 hy)
    obtain ⟨e', he', rfl⟩ := List.mem_map.1 hpm
    have h6 : e'.blk = e.blk := by rw [h4, h1]; exact hb
    obtain rfl := blk_one h he' he h6
    have h7 := (hf e' he').writes y.x h5
    refine ⟨?_, List.ne_nil_of_mem h5⟩
    show z.x.at_ + z.x.s.size ≤ e'.f.bytes.length
    omega
theorem lose_le {p : Sk} (h : p.2.2.image.length ≤ p.2.2.bytes.length) : (loseF p.2.2).bytes.length ≤ p.2.2.bytes.length := by
  unfold loseF
  split
  · exact Nat.le_refl _
  · exact h
theorem sum_lose {l : List Sk} (h : SkImg l) : (l.map fun p => (loseF p.2.2).bytes.length).sum ≤ (l.map fun p => p.2.2.bytes.length).sum := by
  induction l with
  | nil => exact Nat.le_refl _
  | cons p l ih =>
    rw [List.map_cons, List.map_cons, List.sum_cons, List.sum_cons]
    exact Nat.add_le_add (lose_le (h p (List.mem_cons_self ..)).1) (ih fun q hq => h q (List.mem_cons_of_mem _ hq))
theorem sk_sum {w : World} {g : Gh} {st : St} (h : DiskAt w g st) (d : List WaitM) : ((imgs (g.es.map skel) d).map fun p => p.2.2.bytes.length).sum = sumB st.fs := by
  have h1 := congrArg (fun l => (l.map fun q : ByteArray × Nat × List UInt8 × List WriteM => q.2.2.1.length).sum) (sk3_imgs (g.es.map skel) d)
  simp only [List.map_map] at h1
  unfold sumB
  rw [← h.fs, List.map_map]
  exact h1
theorem sk_names {w : World} {g : Gh} {st : St} (h : DiskAt w g st) (d : List WaitM) : (imgs (g.es.map skel) d).map (fun p => p.1) = st.fs.map (·.1) := by
  have h1 := congrArg (fun l => l.map fun q : ByteArray × Nat × List UInt8 × List WriteM => q.1) (sk3_imgs (g.es.map skel) d)
  simp only [List.map_map] at h1
  rw [← h.fs, List.map_map]
  exact h1
theorem Good.crash {n : Nat} {w : World} {g : Gh} {st : St} {l : List WaitM} (bs : List Bool) (lack : Int) (h : DiskAt w g st) (hg : Good n st) (hp : l.Perm (waitsOf g.es)) : Good n (crashS st (imgs (g.es.map skel) (cutLast (keepL l bs) lack))) := by
  have hi := sk_img bs lack h hg hp
  have hs := sk_sum h (cutLast (keepL l bs) lack)
  have hn := sk_names h (cutLast (keepL l bs) lack)
  generalize imgs (g.es.map skel) (cutLast (keepL l bs) lack) = sk at hi hs hn
  have h1 := sum_lose hi
  have h2 := hg.sum
  have h3 := hg.size
  refine ⟨⟨fun x => (by cases x), (by show (0 : Int) ≤ _; omega)⟩, hg.cap, ?_, ?_, ?_, hg.turn, ?_, ?_⟩
  · show (sk.map fun p => (loseF p.2.2).bytes.length).sum ≤ st.cap
    omega
  · show _ = sumB (sk.map fun p => (p.1, loseF p.2.2))
    unfold sumB
    rw [List.map_map]
    rfl
  · show ((sk.map fun p => (p.1, loseF p.2.2)).map (·.1)).Nodup
    rw [List.map_map]
    exact hn ▸ hg.names
  · show (sk.map fun p => (p.1, loseF p.2.2)).length ≤ n
    have := congrArg List.length hn
    rw [List.length_map, List.length_map] at this
    rw [List.length_map, this]
    exact hg.len
  · intro p hp
    obtain ⟨q, hq, rfl⟩ := List.mem_map.1 hp
    obtain ⟨h4, h5⟩ := hi q hq
    show GoodF n (loseF q.2.2)
    unfold loseF
    split
    · rename_i hw
      exact ⟨(by rw [hw, ← h5 hw]; rfl), h4, fun x hx => (by rw [hw] at hx; cases hx), (by rw [hw]; exact Nat.zero_le _)⟩
    · exact ⟨rfl, Nat.le_refl _, fun x hx => (by cases hx), Nat.zero_le _⟩
end Go.Proofs.YtgephceihkkokaaGreatDoor
