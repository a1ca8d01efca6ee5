/- A part. -/
import Derived.Test.YtemimmnamajooaaGreatOpl23
set_option linter.unusedVariables false
set_option linter.unusedSimpArgs false
namespace Go.Proofs.YtemimmnamajooaaGreat
open Go.RowKit Go.Deep
structure GoodF (n : Nat) (f : FileM) : Prop where
  bytes : f.bytes = putAll f.image f.writes
  image : f.image.length ≤ f.bytes.length
  writes : ∀ x ∈ f.writes, x.at_ + x.s.size ≤ f.bytes.length
  count : f.writes.length ≤ n
def sumB (fs : List (ByteArray × FileM)) : Nat := (fs.map fun p => p.2.bytes.length).sum
structure Good (n : Nat) (st : St) : Prop where
  fuse : FuseOk st
  cap : st.cap ≤ 16777216
  size : st.size ≤ st.cap
  sum : st.size = sumB st.fs
  names : (st.fs.map (·.1)).Nodup
  turn : st.turn ≤ n
  len : st.fs.length ≤ n
  files : ∀ p ∈ st.fs, GoodF n p.2
theorem GoodF.more {n m : Nat} {f : FileM} (h : GoodF n f) (hm : n ≤ m) : GoodF m f := ⟨h.bytes, h.image, h.writes, Nat.le_trans h.count hm⟩
theorem Good.more {n m : Nat} {st : St} (h : Good n st) (hm : n ≤ m) : Good m st :=
  ⟨h.fuse, h.cap, h.size, h.sum, h.names, Nat.le_trans h.turn hm, Nat.le_trans h.len hm, fun p hp => (h.files p hp).more hm⟩
theorem Good.sizeOk {n : Nat} {st : St} (h : Good n st) : SizeOk st := ⟨h.sum, h.names⟩
theorem mem_sumB {fs : List (ByteArray × FileM)} {p : ByteArray × FileM} (h : p ∈ fs) : p.2.bytes.length ≤ sumB fs := by
  obtain ⟨l1, l2, rfl⟩ := List.append_of_mem h
  unfold sumB
  simp only [List.map_append, List.map_cons, List.sum_append_nat, List.sum_cons]
  omega
theorem Good.within {n : Nat} {st : St} (h : Good n st) (hn : n ≤ 1073741824) {p : ByteArray × FileM} (hp : p ∈ st.fs) : Within p.2 1073741824 := by
  have h1 := mem_sumB hp
  have h2 := h.sum
  have h3 := h.size
  have h4 := h.cap
  have hf := h.files p hp
  have h5 := hf.image
  have h6 := hf.count
  refine ⟨by omega, by omega, by omega, fun x hx => ?_⟩
  have := hf.writes x hx
  omega
theorem Good.allIn {n : Nat} {st : St} (h : Good n st) (hn : n ≤ 1073741824) : AllIn st 1099511627776 := fun p hp => by
  obtain ⟨h1, h2, h3, h4⟩ := h.within hn hp
  refine ⟨by omega, by omega, by omega, fun x hx => ?_⟩
  have := h4 x hx
  omega
theorem Good.new (c : Int) : Good 0 (newSt c) := by
  refine ⟨⟨fun h => (by cases h), (by show (0 : Int) ≤ _; omega)⟩, ?_, Nat.zero_le _, rfl, List.nodup_nil, Nat.le_refl _, Nat.le_refl _, fun p hp => (by cases hp)⟩
  show (min (max c 0) 16777216).toNat ≤ 16777216
  omega
theorem FuseOk.burn {st : St} (h : FuseOk st) : FuseOk (burnS st) := by
  unfold burnS
  split
  · rename_i h1
    split
    · exact h
    · rename_i h2
      have h3 := h.1 h1
      have h4 := h.2
      refine ⟨fun _ => ?_, ?_⟩
      · show 0 ≤ st.left - 1
        omega
      · show st.left - 1 ≤ _
        omega
  · exact h
theorem Good.burn {n : Nat} {st : St} (h : Good n st) : Good n (burnS st) := by
  refine ⟨h.fuse.burn, ?_, ?_, ?_, ?_, ?_, ?_, ?_⟩
  · rw [burnS_cap]; exact h.cap
  · rw [burnS_cap, burnS_size]; exact h.size
  · rw [burnS_fs, burnS_size]; exact h.sum
  · rw [burnS_fs]; exact h.names
  · rw [burnS_turn]; exact h.turn
  · rw [burnS_fs]; exact h.len
  · rw [burnS_fs]; exact h.files
theorem goodF_empty (n : Nat) : GoodF n emptyF := ⟨rfl, Nat.le_refl _, fun x hx => (by cases hx), Nat.zero_le _⟩
theorem find_none {fs : List (ByteArray × FileM)} {nm : ByteArray} (h : ¬ (((fs.find? fun p => decide (p.1 = nm)).map (·.2)).isSome = true)) : nm ∉ fs.map (·.1) := fun hx => by
  obtain ⟨p, hp, rfl⟩ := List.mem_map.1 hx
  apply h
  rw [Option.isSome_map, List.find?_isSome]
  exact ⟨p, hp, by simp⟩
theorem Good.create {n : Nat} {st : St} (h : Good n st) (nm : ByteArray) : Good (n + 1) (createS st nm) := by
  unfold createS
  split
  · exact h.more (Nat.le_succ _)
  · split
    · exact h.more (Nat.le_succ _)
    · rename_i hf
      split
      · have hb := h.burn
        refine ⟨hb.fuse, hb.cap, hb.size, ?_, ?_, Nat.le_succ_of_le hb.turn, ?_, ?_⟩
        · show (burnS st).size = sumB (st.fs ++ [(nm, emptyF)])
          rw [burnS_size, h.sum]
          unfold sumB
          simp [emptyF]
        · show ((st.fs ++ [(nm, emptyF)]).map (·.1)).Nodup
          rw [List.map_append, List.nodup_append]
          refine ⟨h.names, by simp, fun a ha b hb' hab => ?_⟩
          simp at hb'
          subst hb'
          subst hab
          exact find_none hf ha
        · show (st.fs ++ [(nm, emptyF)]).length ≤ n + 1
          rw [List.length_append]
          have := h.len
          simp; omega
        · intro p hp
          rcases List.mem_append.1 hp with h1 | h1
          · exact (h.files p h1).more (Nat.le_succ _)
          · simp at h1; subst h1; exact goodF_empty _
      · exact h.burn.more (Nat.le_succ _)
theorem setF_none {fs : List (ByteArray × FileM)} {nm : ByteArray} (f : FileM) (h : nm ∉ fs.map (·.1)) : setF fs nm f = fs := by
  unfold setF
  refine (List.map_congr_left fun p hp => ?_).trans (List.map_id _)
  exact if_neg fun (e : p.1 = nm) => h (e ▸ List.mem_map_of_mem hp)
theorem sumB_cons (p : ByteArray × FileM) (l : List (ByteArray × FileM)) : sumB (p :: l) = p.2.bytes.length + sumB l := rfl
theorem sumB_setF {fs : List (ByteArray × FileM)} {nm : ByteArray} {f : FileM} (f' : FileM) (hn : (fs.map (·.1)).Nodup) (hf : (fs.find? fun p => decide (p.1 = nm)).map (·.2) = some f) :
    sumB (setF fs nm f') + f.bytes.length = sumB fs + f'.bytes.length := by
  induction fs with
  | nil => cases hf
  | cons p l ih =>
    rw [List.map_cons, List.nodup_cons] at hn
    by_cases hp : p.1 = nm
    · rw [List.find?_cons_of_pos (by simp [hp])] at hf
      obtain rfl : p.2 = f := Option.some.inj hf
      have h1 : setF (p :: l) nm f' = (nm, f') :: setF l nm f' := by unfold setF; rw [List.map_cons, if_pos hp]
      rw [h1, setF_none f' (hp ▸ hn.1), sumB_cons, sumB_cons]
      show f'.bytes.length + sumB l + p.2.bytes.length = p.2.bytes.length + sumB l + f'.bytes.length
      omega
    · rw [List.find?_cons_of_neg (by simp [hp])] at hf
      have h1 : setF (p :: l) nm f' = p :: setF l nm f' := by unfold setF; rw [List.map_cons, if_neg hp]
      have := ih hn.2 hf
      rw [h1, sumB_cons, sumB_cons]
      omega
theorem mem_setF {fs : List (ByteArray × FileM)} {nm : ByteArray} {f : FileM} {p : ByteArray × FileM} (h : p ∈ setF fs nm f) : p ∈ fs ∨ p = (nm, f) := by
  obtain ⟨q, hq, rfl⟩ := List.mem_map.1 h
  by_cases hp : q.1 = nm
  · exact .inr (if_pos hp)
  · rw [if_neg hp]; exact .inl hq
theorem Good.set {n m : Nat} {st : St} (h : Good n st) (hm : n ≤ m) {nm : ByteArray} {f f' : FileM} (hf : st.find nm = some f) (hg : GoodF m f') (k t : Nat) (hk : k + f.bytes.length = st.size + f'.bytes.length) (hc : k ≤ st.cap) (ht : t ≤ m) :
    Good m { st with size := k, turn := t, fs := setF st.fs nm f' } := by
  refine ⟨h.fuse, h.cap, hc, ?_, ?_, ht, ?_, ?_⟩
  · show k = sumB (setF st.fs nm f')
    have := sumB_setF f' h.names hf
    have := h.sum
    omega
  · show ((setF st.fs nm f').map (·.1)).Nodup
    rw [names_setF]; exact h.names
  · show (setF st.fs nm f').length ≤ m
    unfold setF
    rw [List.length_map]
    exact Nat.le_trans h.len hm
  · intro p hp
    rcases mem_setF hp with h1 | rfl
    · exact (h.files p h1).more hm
    · exact hg
theorem Good.file {n : Nat} {st : St} (h : Good n st) {nm : ByteArray} {f : FileM} (hf : st.find nm = some f) : GoodF n f := h.files _ (find_mem hf)
theorem text_len (s : ByteArray) : s.data.toList.length = s.size := by rw [Array.length_toList]; rfl
theorem putB_size (b : List UInt8) (a : Nat) (s : ByteArray) (hs : s.size ≠ 0) : (putB b a s.data.toList).length = max b.length (a + s.size) := by
  rw [putB_length _ _ _ (fun e => hs (by rw [← text_len, e]; rfl)), text_len]
theorem GoodF.add {n : Nat} {f : FileM} (h : GoodF n f) (x : WriteM) (hx : x.s.size ≠ 0) : GoodF (n + 1) (addF f x) := by
  have hl := putB_size f.bytes x.at_ x.s hx
  refine ⟨?_, ?_, ?_, ?_⟩
  · show putB f.bytes _ _ = putAll f.image (f.writes ++ [x])
    rw [putAll_snoc, ← h.bytes]
  · show f.image.length ≤ (putB f.bytes _ _).length
    have := h.image
    omega
  · intro y hy
    show _ ≤ (putB f.bytes _ _).length
    rcases List.mem_append.1 hy with h1 | h1
    · have := h.writes y h1
      omega
    · simp at h1; subst h1; omega
  · show (f.writes ++ [x]).length ≤ n + 1
    have := h.count
    simp; omega
theorem GoodF.sync {n : Nat} {f : FileM} (h : GoodF n f) : GoodF n (syncF f) := by
  refine ⟨h.bytes, ?_, fun x hx => (by cases hx), Nat.zero_le _⟩
  show (putAll f.image f.writes).length ≤ f.bytes.length
  rw [← h.bytes]
  exact Nat.le_refl _
theorem burn_find (st : St) (nm : ByteArray) : (burnS st).find nm = st.find nm := by unfold St.find; rw [burnS_fs]
theorem Good.write {n : Nat} {st : St} (h : Good n st) (nm : ByteArray) (a : Int) (s : ByteArray) : Good (n + 1) (writeS st nm a s) := by
  have h0 := h.more (Nat.le_succ n)
  have hb := h0.burn
  unfold writeS
  split
  · exact h0
  · split
    · exact h0
    · rename_i f hf
      split
      · exact h0
      · split
        · exact h0
        · rename_i hr
          split
          · split
            · exact hb
            · rename_i hs
              have hl := putB_size f.bytes a.toNat s hs
              have hlen : (addF f ⟨(st.turn : Int) + 1, a.toNat, s⟩).bytes.length = (putB f.bytes a.toNat s.data.toList).length := rfl
              have h1 := h.size
              unfold Go.Proofs.YtemimmnamajooaaGreat.more at hr ⊢
              rw [← burnS_fs st]
              refine h.burn.set (Nat.le_succ n) (f := f) (by rw [burn_find]; exact hf) ((h.file hf).add _ hs) _ _ ?_ ?_ ?_
              · rw [burnS_size, hlen]; omega
              · rw [burnS_cap]; omega
              · exact Nat.succ_le_succ h.turn
          · exact hb
theorem Good.sync1 {n : Nat} {st : St} (h : Good n st) (nm : ByteArray) : Good n (sync1 st nm) := by
  unfold Go.Proofs.YtemimmnamajooaaGreat.sync1
  split
  · exact h
  · rename_i f hf
    exact h.set (Nat.le_refl n) hf (h.file hf).sync st.size st.turn rfl h.size h.turn
theorem Good.syncAll {n : Nat} {st : St} (h : Good n st) (ts : List ByteArray) : Good n (syncAll st ts) := by
  unfold Go.Proofs.YtemimmnamajooaaGreat.syncAll
  induction ts generalizing st with
  | nil => exact h
  | cons t ts ih => exact ih (h.sync1 t)
theorem Good.sync {n : Nat} {st : St} (h : Good n st) (ts : List ByteArray) : Good n (syncS st ts) := by
  unfold syncS
  split
  · split
    · exact h.burn.syncAll ts
    · exact h.burn
  · exact h
theorem sumB_dropF {fs : List (ByteArray × FileM)} (hn : (fs.map (·.1)).Nodup) (nm : ByteArray) : sumB (dropF fs nm) + lenF fs nm = sumB fs := len_split hn nm
theorem names_dropF (fs : List (ByteArray × FileM)) (nm : ByteArray) (hn : (fs.map (·.1)).Nodup) : ((dropF fs nm).map (·.1)).Nodup ∧ nm ∉ (dropF fs nm).map (·.1) := by
  refine ⟨?_, fun hx => ?_⟩
  · unfold dropF
    exact List.Nodup.sublist ((List.filter_sublist).map _) hn
  · obtain ⟨p, hp, rfl⟩ := List.mem_map.1 hx
    have := (List.mem_filter.1 hp).2
    simp at this
theorem Good.remove {n : Nat} {st : St} (h : Good n st) (nm : ByteArray) : Good n (removeS st nm) := by
  have h1 := sumB_dropF h.names nm
  have h2 := h.sum
  have h3 := h.size
  refine ⟨h.fuse, h.cap, ?_, ?_, (names_dropF _ nm h.names).1, h.turn, ?_, fun p hp => h.files p (List.mem_filter.1 hp).1⟩
  · show st.size - st.len nm ≤ st.cap
    omega
  · show st.size - st.len nm = sumB (dropF st.fs nm)
    rw [len_eq]; omega
  · exact Nat.le_trans (List.length_filter_le _ _) h.len
theorem Good.deleteAll {n : Nat} {st : St} (h : Good n st) (ts : List ByteArray) : Good n (deleteAll st ts) := by
  unfold Go.Proofs.YtemimmnamajooaaGreat.deleteAll
  induction ts generalizing st with
  | nil => exact h
  | cons t ts ih => exact ih (h.remove t)
theorem Good.delete {n : Nat} {st : St} (h : Good n st) (ts : List ByteArray) : Good n (deleteS st ts) := by
  unfold deleteS
  split
  · split
    · exact h.burn.deleteAll ts
    · exact h.burn
  · exact h
theorem find_dropF {fs : List (ByteArray × FileM)} {a b : ByteArray} (hab : a ≠ b) : (dropF fs b).find? (fun p => decide (p.1 = a)) = fs.find? (fun p => decide (p.1 = a)) := by
  unfold dropF
  rw [List.find?_filter]
  congr 1
  funext p
  by_cases hp : p.1 = a
  · subst hp; simp [hab]
  · simp [hp]
theorem Good.rename {n : Nat} {st : St} (h : Good n st) (a b : ByteArray) : Good n (renameS st a b) := by
  unfold renameS
  split
  · exact h
  · split
    · exact h
    · rename_i f hf
      split
      · split
        · exact h.burn
        · rename_i hab
          have hr := h.burn.remove b
          have hfa : (dropF (burnS st).fs b).find? (fun p => decide (p.1 = a)) = (burnS st).fs.find? (fun p => decide (p.1 = a)) := find_dropF hab
          have hl : lenF (dropF (burnS st).fs b) a = f.bytes.length := by
            unfold lenF
            rw [hfa, burnS_fs]
            have : (st.fs.find? fun p => decide (p.1 = a)).map (·.2) = some f := hf
            rw [this]
          have h1 := sumB_dropF hr.names a
          have h2 := hr.sum
          have h3 : (removeS (burnS st) b).fs = dropF (burnS st).fs b := rfl
          rw [h3] at h1 h2
          have hd := names_dropF _ a hr.names
          rw [h3] at hd
          have hb : b ∉ (dropF (dropF (burnS st).fs b) a).map (·.1) := fun hx => by
            obtain ⟨p, hp, hpb⟩ := List.mem_map.1 hx
            exact (names_dropF _ b h.burn.names).2 (List.mem_map.2 ⟨p, (List.mem_filter.1 hp).1, hpb⟩)
          have hmem := find_mem hf
          have hfl : (dropF (dropF (burnS st).fs b) a).length + 1 ≤ (dropF (burnS st).fs b).length := by
            have hm : (a, f) ∈ dropF (burnS st).fs b := List.mem_filter.2 ⟨by rw [burnS_fs]; exact hmem, by simp [hab]⟩
            exact List.length_filter_lt_length_iff_exists.2 ⟨_, hm, by simp⟩
          refine ⟨hr.fuse, hr.cap, hr.size, ?_, ?_, hr.turn, ?_, ?_⟩
          · show (removeS (burnS st) b).size = sumB (dropF (dropF (burnS st).fs b) a ++ [(b, f)])
            have h4 : sumB (dropF (dropF (burnS st).fs b) a ++ [(b, f)]) = sumB (dropF (dropF (burnS st).fs b) a) + f.bytes.length := by
              unfold sumB
              simp
            rw [h4]
            omega
          · show ((dropF (dropF (burnS st).fs b) a ++ [(b, f)]).map (·.1)).Nodup
            rw [List.map_append, List.nodup_append]
            refine ⟨hd.1, by simp, fun x hx y hy hxy => ?_⟩
            simp at hy
            subst hy
            subst hxy
            exact hb hx
          · show (dropF (dropF (burnS st).fs b) a ++ [(b, f)]).length ≤ n
            have := hr.len
            rw [h3] at this
            rw [List.length_append]
            simp
            omega
          · intro p hp
            rcases List.mem_append.1 hp with h5 | h5
            · exact h.burn.files p (List.mem_filter.1 (List.mem_filter.1 h5).1).1
            · simp at h5; subst h5; exact h.file hf
      · exact h.burn
theorem Good.fuseS {n : Nat} {st : St} (h : Good n st) (k : Int) (hk : k ≤ 9223372036854775807) : Good n (fuseS st k) :=
  ⟨⟨fun hl => by have : decide (0 ≤ k) = true := hl; show 0 ≤ k; simpa using this, hk⟩, h.cap, h.size, h.sum, h.names, h.turn, h.len, h.files⟩
def sk3 (p : Sk) : ByteArray × Nat × List UInt8 × List WriteM := (p.1, p.2.1, p.2.2.bytes, p.2.2.writes)
theorem sk3_img1 (z : WaitM) (p : Sk) : sk3 (img1 z p) = sk3 p := by unfold img1; split <;> rfl
theorem sk3_imgs (l : List Sk) (d : List WaitM) : (imgs l d).map sk3 = l.map sk3 := by
  unfold imgs
  induction d generalizing l with
  | nil => rfl
  | cons z d ih =>
    rw [List.foldl_cons, ih]
    unfold img
    rw [List.map_map]
    exact List.map_congr_left fun p _ => sk3_img1 z p
def SkImg (l : List Sk) : Prop := ∀ p ∈ l, p.2.2.image.length ≤ p.2.2.bytes.length ∧ (p.2.2.writes = [] → p.2.2.image = p.2.2.bytes)
def SkFits (l : List Sk) (z : WaitM) : Prop := ∀ p ∈ l, p.2.1 = z.to_ → z.x.at_ + z.x.s.size ≤ p.2.2.bytes.length ∧ p.2.2.writes ≠ []
theorem SkFits.img {l : List Sk} {y z : WaitM} (h : SkFits l z) : SkFits (img l y) z := by
  intro p hp hz
  obtain ⟨q, hq, rfl⟩ := List.mem_map.1 hp
  have h1 := sk3_img1 y q
  unfold sk3 at h1
  simp only [Prod.mk.injEq] at h1
  obtain ⟨_, h2, h3, h4⟩ := h1
  rw [h3, h4]
  exact h q hq (h2 ▸ hz)
theorem SkImg.img {l : List Sk} {z : WaitM} (h : SkImg l) (hz : SkFits l z) : SkImg (img l z) := by
  intro p hp
  obtain ⟨q, hq, rfl⟩ := List.mem_map.1 hp
  by_cases hb : q.2.1 = z.to_
  · rw [img1_eq hb]
    obtain ⟨h1, h2⟩ := hz q hq hb
    refine ⟨?_, fun hw => absurd hw h2⟩
    show (putB q.2.2.image z.x.at_ z.x.s.data.toList).length ≤ q.2.2.bytes.length
    have h3 := (h q hq).1
    by_cases hs : z.x.s.size = 0
    · have : z.x.s.data.toList = [] := List.length_eq_zero_iff.1 (by rw [text_len, hs])
      rw [this, putB_nil]
      exact h3
    · rw [putB_size _ _ _ hs]
      omega
  · rw [img1_ne hb]
    exact h q hq
theorem SkImg.imgs {l : List Sk} {d : List WaitM} (h : SkImg l) (hz : ∀ z ∈ d, SkFits l z) : SkImg (imgs l d) := by
  unfold Go.Proofs.YtemimmnamajooaaGreat.imgs
  induction d generalizing l with
  | nil => exact h
  | cons z d ih =>
    rw [List.foldl_cons]
    exact ih (h.img (hz z (List.mem_cons_self ..))) (fun y hy => (hz y (List.mem_cons_of_mem _ hy)).img)
theorem sk_img {n : Nat} {w : World} {g : Gh} {st : St} {l : List WaitM} (bs : List Bool) (lack : Int) (h : DiskAt w g st) (hg : Good n st) (hp : l.Perm (waitsOf g.es)) : SkImg (imgs (g.es.map skel) (cutLast (keepL l bs) lack)) := by
  have hf : ∀ e ∈ g.es, GoodF n e.f := fun e he => hg.files (nf e) (by rw [← h.fs]; exact List.mem_map_of_mem he)
  refine SkImg.imgs ?_ ?_
  · intro p hp
    obtain ⟨e, he, rfl⟩ := List.mem_map.1 hp
    refine ⟨(hf e he).image, fun hw => ?_⟩
    have h1 := (hf e he).bytes
    have h2 : e.f.writes = [] := hw
    rw [h2] at h1
    exact h1.symm
  · intro z hz p hpm hb
    obtain ⟨y, hy, h1, h2, h3⟩ := keep_sub hz
    obtain ⟨e, he, h4, h5⟩ := waits_mem (hp.mem_iff.1 hy)
    obtain ⟨e', he', rfl⟩ := List.mem_map.1 hpm
    have h6 : e'.blk = e.blk := by rw [h4, h1]; exact hb
    obtain rfl := blk_one h he' he h6
    have h7 := (hf e' he').writes y.x h5
    refine ⟨?_, List.ne_nil_of_mem h5⟩
    show z.x.at_ + z.x.s.size ≤ e'.f.bytes.length
    omega
theorem lose_le {p : Sk} (h : p.2.2.image.length ≤ p.2.2.bytes.length) : (loseF p.2.2).bytes.length ≤ p.2.2.bytes.length := by
  unfold loseF
  split
  · exact Nat.le_refl _
  · exact h
theorem sum_lose {l : List Sk} (h : SkImg l) : (l.map fun p => (loseF p.2.2).bytes.length).sum ≤ (l.map fun p => p.2.2.bytes.length).sum := by
  induction l with
  | nil => exact Nat.le_refl _
  | cons p l ih =>
    rw [List.map_cons, List.map_cons, List.sum_cons, List.sum_cons]
    exact Nat.add_le_add (lose_le (h p (List.mem_cons_self ..)).1) (ih fun q hq => h q (List.mem_cons_of_mem _ hq))
theorem sk_sum {w : World} {g : Gh} {st : St} (h : DiskAt w g st) (d : List WaitM) : ((imgs (g.es.map skel) d).map fun p => p.2.2.bytes.length).sum = sumB st.fs := by
  have h1 := congrArg (fun l => (l.map fun q : ByteArray × Nat × List UInt8 × List WriteM => q.2.2.1.length).sum) (sk3_imgs (g.es.map skel) d)
  simp only [List.map_map] at h1
  unfold sumB
  rw [← h.fs, List.map_map]
  exact h1
theorem sk_names {w : World} {g : Gh} {st : St} (h : DiskAt w g st) (d : List WaitM) : (imgs (g.es.map skel) d).map (fun p => p.1) = st.fs.map (·.1) := by
  have h1 := congrArg (fun l => l.map fun q : ByteArray × Nat × List UInt8 × List WriteM => q.1) (sk3_imgs (g.es.map skel) d)
  simp only [List.map_map] at h1
  rw [← h.fs, List.map_map]
  exact h1
theorem Good.crash {n : Nat} {w : World} {g : Gh} {st : St} {l : List WaitM} (bs : List Bool) (lack : Int) (h : DiskAt w g st) (hg : Good n st) (hp : l.Perm (waitsOf g.es)) : Good n (crashS st (imgs (g.es.map skel) (cutLast (keepL l bs) lack))) := by
  have hi := sk_img bs lack h hg hp
  have hs := sk_sum h (cutLast (keepL l bs) lack)
  have hn := sk_names h (cutLast (keepL l bs) lack)
  generalize imgs (g.es.map skel) (cutLast (keepL l bs) lack) = sk at hi hs hn
  have h1 := sum_lose hi
  have h2 := hg.sum
  have h3 := hg.size
  refine ⟨⟨fun x => (by cases x), (by show (0 : Int) ≤ _; omega)⟩, hg.cap, ?_, ?_, ?_, hg.turn, ?_, ?_⟩
  · show (sk.map fun p => (loseF p.2.2).bytes.length).sum ≤ st.cap
    omega
  · show _ = sumB (sk.map fun p => (p.1, loseF p.2.2))
    unfold sumB
    rw [List.map_map]
    rfl
  · show ((sk.map fun p => (p.1, loseF p.2.2)).map (·.1)).Nodup
    rw [List.map_map]
    exact hn ▸ hg.names
  · show (sk.map fun p => (p.1, loseF p.2.2)).length ≤ n
    have := congrArg List.length hn
    rw [List.length_map, List.length_map] at this
    rw [List.length_map, this]
    exact hg.len
  · intro p hp
    obtain ⟨q, hq, rfl⟩ := List.mem_map.1 hp
    obtain ⟨h4, h5⟩ := hi q hq
    show GoodF n (loseF q.2.2)
    unfold loseF
    split
    · rename_i hw
      exact ⟨(by rw [hw, ← h5 hw]; rfl), h4, fun x hx => (by rw [hw] at hx; cases hx), (by rw [hw]; exact Nat.zero_le _)⟩
    · exact ⟨rfl, Nat.le_refl _, fun x hx => (by cases hx), Nat.zero_le _⟩
attribute [local go_sem] fr_opt
structure OpM where
  kind : Int
  at_ : Int
  name : ByteArray
  to_ : ByteArray
  data : ByteArray
  vn : Value
  names : List ByteArray
  vk : Value
  bs : List Bool
  lack : Int
structure OpIn (w : World) (g : Gh) (o : OpM) : Prop where
  names : Strs w 0 o.vn o.names
  keep : BoolsOf w o.vk o.bs
  outN : Out g o.vn
  outK : Out g o.vk
  name : o.name.size ≤ maxLen
  to_ : o.to_.size ≤ maxLen
  data : o.data.size ≤ 1073741824
  each : ∀ t ∈ o.names, t.size ≤ maxLen
  len : o.names.length ≤ 1099511627776
  bits : o.bs.length ≤ 1099511627776
  max : o.at_ ≤ 9223372036854775807
theorem OpTo.from {g : Gh} {k : Int} {st : St} {w w0 : World} {e : Ending} {w' : World} (hc : Chg (fun _ => False) w w0) (h : OpTo g k st w0 e w') : OpTo g k st w e w' := by
  obtain ⟨h1, g', h2, h3⟩ := h
  exact ⟨h1, g', h2, (Gh.To.new g hc).trans h3⟩
theorem OpIn.new {w w' : World} {g : Gh} {o : OpM} (h : OpIn w g o) (hc : Chg (fun _ => False) w w') : OpIn w' g o :=
  { h with
    names := by
      obtain ⟨a, cap, h1, h2⟩ := h.names
      refine ⟨a, cap, h1, ?_⟩
      rcases h2 with h2 | ⟨b, of, h3, h4, h5⟩
      · exact .inl h2
      · exact .inr ⟨b, of, h3, h4, fun i hi => hc.cell (h5 i hi) (fun x => x)⟩
    keep := h.keep.chg hc (fun _ _ _ _ _ x => x) }
structure Pre (n : Nat) (g : Gh) (st : St) (o : OpM) (w W : World) : Prop where
  disk : DiskAt W g st
  good : Good n st
  op : OpIn W g o
  chg : Chg (fun _ => False) w W
theorem Pre.new {n : Nat} {g : Gh} {st : St} {o : OpM} {w W W' : World} (h : Pre n g st o w W) (hc : Chg (fun _ => False) W W') : Pre n g st o w W' :=
  ⟨h.disk.new hc, h.good, h.op.new hc, h.chg.trans hc (fun _ _ x => x)⟩
theorem sum_len_le {n : Nat} {fs : List (ByteArray × FileM)} (h : ∀ p ∈ fs, GoodF n p.2) : (fs.map fun p => p.2.writes.length).sum ≤ fs.length * n := by
  induction fs with
  | nil => simp
  | cons p l ih =>
    have h1 := ih fun q hq => h q (List.mem_cons_of_mem _ hq)
    have h2 := (h p (List.mem_cons_self ..)).count
    rw [List.map_cons, List.sum_cons, List.length_cons, Nat.succ_mul]
    omega
theorem Good.waits {n : Nat} {st : St} (h : Good n st) (hn : n ≤ 1048576) : st.waits ≤ 1099511627776 := by
  have h1 := sum_len_le h.files
  have h2 : st.fs.length * n ≤ 1048576 * 1048576 := Nat.mul_le_mul (Nat.le_trans h.len hn) hn
  exact Nat.le_trans h1 (Nat.le_trans h2 (by decide))
end Go.Proofs.YtemimmnamajooaaGreat
namespace Go.Proofs.YtemimmnamajooaaGreat
open Go.RowKit Go.Deep
def fd (fs : List (ByteArray × FileM)) (a : ByteArray) : Option FileM := (fs.find? fun p => decide (p.1 = a)).map (·.2)
theorem fd_setF (fs : List (ByteArray × FileM)) {a b : ByteArray} (f : FileM) (hab : a ≠ b) : fd (setF fs b f) a = fd fs a := by
  unfold fd setF
  congr 1
  induction fs with
  | nil => rfl
  | cons p l ih =>
    rw [List.map_cons]
    by_cases hp : p.1 = b
    · rw [if_pos hp, List.find?_cons_of_neg (by simp [Ne.symm hab]), List.find?_cons_of_neg (by simp [hp, Ne.symm hab]), ih]
    · rw [if_neg hp]
      by_cases hq : p.1 = a
      · rw [List.find?_cons_of_pos (by simp [hq]), List.find?_cons_of_pos (by simp [hq])]
      · rw [List.find?_cons_of_neg (by simp [hq]), List.find?_cons_of_neg (by simp [hq]), ih]
theorem fd_dropF (fs : List (ByteArray × FileM)) {a b : ByteArray} (hab : a ≠ b) : fd (dropF fs b) a = fd fs a := by unfold fd; rw [find_dropF hab]
theorem fd_snoc (fs : List (ByteArray × FileM)) {a b : ByteArray} (f : FileM) (hab : a ≠ b) : fd (fs ++ [(b, f)]) a = fd fs a := by
  unfold fd
  rw [List.find?_append, List.find?_cons_of_neg (by simp [Ne.symm hab])]
  simp
theorem fd_burn (st : St) (a : ByteArray) : fd (burnS st).fs a = fd st.fs a := by rw [burnS_fs]
theorem sync1_find {st : St} {a b : ByteArray} (hab : a ≠ b) : (sync1 st b).find a = st.find a := by
  unfold sync1
  split
  · rfl
  · exact fd_setF _ _ hab
theorem syncAll_find {st : St} {a : ByteArray} {ts : List ByteArray} (h : a ∉ ts) : (syncAll st ts).find a = st.find a := by
  unfold syncAll
  induction ts generalizing st with
  | nil => rfl
  | cons t ts ih =>
    rw [List.mem_cons, not_or] at h
    rw [List.foldl_cons, ih h.2, sync1_find h.1]
theorem deleteAll_find {st : St} {a : ByteArray} {ts : List ByteArray} (h : a ∉ ts) : (deleteAll st ts).find a = st.find a := by
  unfold deleteAll
  induction ts generalizing st with
  | nil => rfl
  | cons t ts ih =>
    rw [List.mem_cons, not_or] at h
    rw [List.foldl_cons, ih h.2]
    exact fd_dropF _ h.1
def SkHas (l : List Sk) (a : ByteArray) (f : FileM) (b : Nat) : Prop := (∀ p ∈ l, p.1 = a → p.2.2 = f ∧ p.2.1 = b) ∧ a ∈ l.map (·.1)
theorem SkHas.img {l : List Sk} {a : ByteArray} {f : FileM} {b : Nat} (h : SkHas l a f b) {z : WaitM} (hz : z.to_ ≠ b) : SkHas (img l z) a f b := by
  refine ⟨fun p hp ha => ?_, ?_⟩
  · obtain ⟨q, hq, rfl⟩ := List.mem_map.1 hp
    have h1 := sk3_img1 z q
    unfold sk3 at h1
    simp only [Prod.mk.injEq] at h1
    have h2 := h.1 q hq (h1.1 ▸ ha)
    rw [img1_ne (fun e => hz (by rw [← h2.2, e]))]
    exact h2
  · have h1 : (Go.Proofs.YtemimmnamajooaaGreat.img l z).map (·.1) = l.map (·.1) := by
      unfold Go.Proofs.YtemimmnamajooaaGreat.img
      rw [List.map_map]
      exact List.map_congr_left fun p _ => by
        have h1 := sk3_img1 z p
        unfold sk3 at h1
        simp only [Prod.mk.injEq] at h1
        exact h1.1
    rw [h1]
    exact h.2
theorem SkHas.imgs {l : List Sk} {a : ByteArray} {f : FileM} {b : Nat} (h : SkHas l a f b) {d : List WaitM} (hz : ∀ z ∈ d, z.to_ ≠ b) : SkHas (imgs l d) a f b := by
  unfold Go.Proofs.YtemimmnamajooaaGreat.imgs
  induction d generalizing l with
  | nil => exact h
  | cons z d ih =>
    rw [List.foldl_cons]
    exact ih (h.img (hz z (List.mem_cons_self ..))) (fun y hy => hz y (List.mem_cons_of_mem _ hy))
theorem crash_find {n : Nat} {w : World} {g : Gh} {st : St} {l : List WaitM} (bs : List Bool) (lack : Int) (h : DiskAt w g st) (hg : Good n st) (hp : l.Perm (waitsOf g.es)) {a : ByteArray} {f : FileM} (hf : st.find a = some f) (hw : f.writes = []) :
    (crashS st (imgs (g.es.map skel) (cutLast (keepL l bs) lack))).find a = some f := by
  obtain ⟨e, he, hge, hef, hen⟩ := h.found hf
  have h0 : SkHas (g.es.map skel) a f e.blk := by
    refine ⟨fun p hpm ha => ?_, List.mem_map.2 ⟨skel e, List.mem_map_of_mem he, hen⟩⟩
    obtain ⟨e', he', rfl⟩ := List.mem_map.1 hpm
    have h1 := getE_of h.map.1 he'
    have h2 : e'.name = a := ha
    rw [h2, hge] at h1
    obtain rfl := Option.some.inj h1
    exact ⟨hef, rfl⟩
  have h1 := h0.imgs (d := cutLast (keepL l bs) lack) (fun z hz hb => by
    obtain ⟨y, hy, h1, _, _⟩ := keep_sub hz
    obtain ⟨e', he', h4, h5⟩ := waits_mem (hp.mem_iff.1 hy)
    have h6 := blk_one h he' he (by rw [h4, h1, hb])
    subst h6
    rw [hef, hw] at h5
    cases h5)
  generalize imgs (g.es.map skel) (cutLast (keepL l bs) lack) = sk at h1
  show fd (sk.map fun p => (p.1, loseF p.2.2)) a = some f
  obtain ⟨h2, h3⟩ := h1
  have hl : loseF f = f := by unfold loseF; rw [if_pos hw]
  unfold fd
  rw [List.find?_map, Option.map_map]
  cases hq : sk.find? ((fun p => decide (p.1 = a)) ∘ fun p : Sk => (p.1, loseF p.2.2)) with
  | none =>
    obtain ⟨p, hp1, hp2⟩ := List.mem_map.1 h3
    have := List.find?_eq_none.1 hq p hp1
    simp [hp2] at this
  | some p =>
    have hm := List.mem_of_find?_eq_some hq
    have ha := List.find?_some hq
    have := h2 p hm (by simpa using ha)
    show some (loseF p.2.2) = some f
    rw [this.1, hl]
def tailB : ByteArray := ⟨#[46, 110, 101, 119]⟩
def remE (st : St) (f : ByteArray) : Int := if deleteE st [f] = 9 then 0 else deleteE st [f]
def remS (st : St) (f : ByteArray) : St := deleteS st [f]
def sv1 (st : St) (f : ByteArray) : St := remS st f
def sv2 (st : St) (f : ByteArray) : St := createS (sv1 st f) f
def sv3 (st : St) (f b : ByteArray) : St := writeS (sv2 st f) f 0 b
def sv4 (st : St) (f b : ByteArray) : St := syncS (sv3 st f b) [f]
def sv5 (st : St) (f nm b : ByteArray) : St := renameS (sv4 st f b) f nm
def svS (st : St) (f nm b : ByteArray) : Nat → St
  | 0 => st
  | 1 => sv1 st f
  | 2 => sv2 st f
  | 3 => sv3 st f b
  | 4 => sv4 st f b
  | _ => sv5 st f nm b
def svE (st : St) (f nm b : ByteArray) : Nat → Int
  | 0 => remE st f
  | 1 => createE (sv1 st f) f
  | 2 => writeE (sv2 st f) f 0 b
  | 3 => syncE (sv3 st f b) [f]
  | 4 => renameE (sv4 st f b) f
  | _ => 0
def svK (E : Nat → Int) : Nat := if E 0 ≠ 0 then 0 else if E 1 ≠ 0 then 1 else if E 2 ≠ 0 then 2 else if E 3 ≠ 0 then 3 else if E 4 ≠ 0 then 4 else 5
theorem svK_le (E : Nat → Int) : svK E ≤ 5 := by unfold svK; (repeat' split) <;> decide
theorem svK_ok (E : Nat → Int) : ∀ j, j < svK E → E j = 0 := by
  intro j hj
  unfold svK at hj
  (repeat' split at hj) <;> first
    | omega
    | (rcases (show j = 0 ∨ j = 1 ∨ j = 2 ∨ j = 3 ∨ j = 4 by omega) with rfl | rfl | rfl | rfl | rfl <;> first | omega | (rename_i h _ _ _ _; simpa using h) | (simp_all))
theorem svK_bad (E : Nat → Int) (h : svK E < 5) : E (svK E) ≠ 0 := by
  unfold svK at h ⊢
  (repeat' split) <;> first | assumption | (exfalso; simp_all)
theorem svK_at (E : Nat → Int) (k : Nat) (h0 : ∀ j, j < k → E j = 0) (hk : k < 5) (hb : E k ≠ 0) : svK E = k := by
  unfold svK
  rcases (show k = 0 ∨ k = 1 ∨ k = 2 ∨ k = 3 ∨ k = 4 by omega) with rfl | rfl | rfl | rfl | rfl
  · rw [if_pos hb]
  · rw [if_neg (by simp [h0 0 (by decide)]), if_pos hb]
  · rw [if_neg (by simp [h0 0 (by decide)]), if_neg (by simp [h0 1 (by decide)]), if_pos hb]
  · rw [if_neg (by simp [h0 0 (by decide)]), if_neg (by simp [h0 1 (by decide)]), if_neg (by simp [h0 2 (by decide)]), if_pos hb]
  · rw [if_neg (by simp [h0 0 (by decide)]), if_neg (by simp [h0 1 (by decide)]), if_neg (by simp [h0 2 (by decide)]), if_neg (by simp [h0 3 (by decide)]), if_pos hb]
theorem svK_all (E : Nat → Int) (h0 : ∀ j, j < 5 → E j = 0) : svK E = 5 := by
  unfold svK
  rw [if_neg (by simp [h0 0 (by decide)]), if_neg (by simp [h0 1 (by decide)]), if_neg (by simp [h0 2 (by decide)]), if_neg (by simp [h0 3 (by decide)]), if_neg (by simp [h0 4 (by decide)])]
def fstE (st : St) (f nm b : ByteArray) : Int := svE st f nm b (svK (svE st f nm b))
def fstS (st : St) (f nm b : ByteArray) : St := svS st f nm b (svK (svE st f nm b) + 1)
def saveE (st : St) (f nm b : ByteArray) : Int := if fstE st f nm b = 0 then 0 else if remE (fstS st f nm b) f ≠ 0 then remE (fstS st f nm b) f else fstE st f nm b
def saveS (st : St) (f nm b : ByteArray) : St := if fstE st f nm b = 0 then fstS st f nm b else remS (fstS st f nm b) f
theorem fstE_zero {st : St} {f nm b : ByteArray} (h : fstE st f nm b = 0) : svK (svE st f nm b) = 5 := by
  have h1 := svK_le (svE st f nm b)
  rcases Nat.lt_or_ge (svK (svE st f nm b)) 5 with h2 | h2
  · exact absurd h (svK_bad _ h2)
  · omega
theorem saveE_zero {st : St} {f nm b : ByteArray} (h : saveE st f nm b = 0) : fstE st f nm b = 0 := by
  unfold saveE at h
  split at h
  · assumption
  · split at h
    · contradiction
    · exact h
theorem remS_find {st : St} {a f : ByteArray} (h : a ≠ f) : (remS st f).find a = st.find a := by
  unfold remS deleteS
  (repeat' split) <;> first | rfl | exact burn_find _ _ | exact (deleteAll_find (by simpa using h)).trans (burn_find _ _)
theorem createS_find {st : St} {a f : ByteArray} (h : a ≠ f) : (createS st f).find a = st.find a := by
  unfold createS
  (repeat' split) <;> first | rfl | exact burn_find _ _ | exact fd_snoc _ _ h
theorem writeS_find {st : St} {a f : ByteArray} (x : Int) (b : ByteArray) (h : a ≠ f) : (writeS st f x b).find a = st.find a := by
  unfold writeS
  (repeat' split) <;> first | rfl | exact burn_find _ _ | exact fd_setF _ _ h
theorem syncS_find {st : St} {a f : ByteArray} (h : a ≠ f) : (syncS st [f]).find a = st.find a := by
  unfold syncS
  (repeat' split) <;> first | rfl | exact burn_find _ _ | exact (syncAll_find (by simpa using h)).trans (burn_find _ _)
theorem renameS_find {st : St} {a f nm : ByteArray} (h : a ≠ f) (hn : a ≠ nm) : (renameS st f nm).find a = st.find a := by
  unfold renameS
  (repeat' split) <;> first | rfl | exact burn_find _ _ | (refine (fd_snoc _ _ hn).trans ((fd_dropF _ h).trans ((fd_dropF _ hn).trans (fd_burn _ _))))
theorem sv4_find {st : St} {a f b : ByteArray} (h : a ≠ f) : ∀ k, k ≤ 4 → ∀ nm, (svS st f nm b k).find a = st.find a := by
  have h1 : (sv1 st f).find a = st.find a := remS_find h
  have h2 : (sv2 st f).find a = st.find a := (createS_find h).trans h1
  have h3 : (sv3 st f b).find a = st.find a := (writeS_find _ _ h).trans h2
  have h4 : (sv4 st f b).find a = st.find a := (syncS_find h).trans h3
  intro k hk nm
  rcases (show k = 0 ∨ k = 1 ∨ k = 2 ∨ k = 3 ∨ k = 4 by omega) with rfl | rfl | rfl | rfl | rfl
  · rfl
  · exact h1
  · exact h2
  · exact h3
  · exact h4
theorem svS_find {st : St} {a f nm b : ByteArray} (h : a ≠ f) (hn : a ≠ nm) (k : Nat) : (svS st f nm b k).find a = st.find a := by
  rcases Nat.lt_or_ge k 5 with h1 | h1
  · exact sv4_find h k (by omega) nm
  · have e : svS st f nm b k = sv5 st f nm b := by
      match k, h1 with
      | k + 5, _ => rfl
    rw [e]
    exact (renameS_find h hn).trans (sv4_find (b := b) h 4 (Nat.le_refl _) nm)
theorem saveS_find {st : St} {a f nm b : ByteArray} (h : a ≠ f) (hn : a ≠ nm) : (saveS st f nm b).find a = st.find a := by
  unfold saveS fstS
  split
  · exact svS_find h hn _
  · exact (remS_find h).trans (svS_find h hn _)
theorem burnE_cases (st : St) : burnE st = 0 ∨ burnE st = 8 := by unfold burnE; split <;> simp
theorem renameE_bad {st : St} {a f nm : ByteArray} (h : renameE st f ≠ 0) : (renameS st f nm).find a = st.find a := by
  unfold renameE at h
  unfold renameS
  split
  · rfl
  · rename_i hd
    rw [if_neg hd] at h
    cases hq : st.find f with
    | none => rfl
    | some F =>
      rw [hq] at h
      simp only at h
      simp only
      rw [if_neg h]
      exact burn_find _ _
theorem saveS_old {st : St} {f nm b : ByteArray} (hn : nm ≠ f) (he : saveE st f nm b ≠ 0) : (saveS st f nm b).find nm = st.find nm := by
  have hf : fstE st f nm b ≠ 0 := fun h => he (by unfold saveE; rw [if_pos h])
  unfold saveS
  rw [if_neg hf, remS_find hn]
  unfold fstS
  have hk := svK_le (svE st f nm b)
  have h5 : svK (svE st f nm b) ≠ 5 := fun h => hf (by unfold fstE; rw [h]; rfl)
  rcases Nat.lt_or_ge (svK (svE st f nm b)) 4 with h1 | h1
  · exact sv4_find hn _ (by omega) nm
  · have h4 : svK (svE st f nm b) = 4 := by omega
    have hb := svK_bad (svE st f nm b) (by omega)
    rw [h4] at hb ⊢
    exact (renameE_bad (show renameE (sv4 st f b) f ≠ 0 from hb)).trans (sv4_find (b := b) hn 4 (Nat.le_refl _) nm)
theorem fd_same (fs : List (ByteArray × FileM)) (a : ByteArray) (f : FileM) (h : fd fs a = none) : fd (fs ++ [(a, f)]) a = some f := by
  unfold fd at h ⊢
  rw [List.find?_append]
  cases hq : fs.find? (fun p => decide (p.1 = a)) with
  | none => simp
  | some p => rw [hq] at h; cases h
theorem fd_setF_same {fs : List (ByteArray × FileM)} {a : ByteArray} {f : FileM} (f' : FileM) (h : fd fs a = some f) : fd (setF fs a f') a = some f' := by
  unfold fd setF at *
  induction fs with
  | nil => cases h
  | cons p l ih =>
    rw [List.map_cons]
    by_cases hp : p.1 = a
    · rw [if_pos hp, List.find?_cons_of_pos (by simp)]; rfl
    · rw [if_neg hp, List.find?_cons_of_neg (by simp [hp])]
      rw [List.find?_cons_of_neg (by simp [hp])] at h
      exact ih h
theorem fd_dropF_same (fs : List (ByteArray × FileM)) (a : ByteArray) : fd (dropF fs a) a = none := by
  unfold fd dropF
  rw [List.find?_filter, Option.map_eq_none_iff, List.find?_eq_none]
  intro p _
  simp
theorem remE_zero {st : St} {f : ByteArray} (h : remE st f = 0) : (remS st f).find f = none := by
  unfold remE deleteE at h
  unfold remS deleteS
  by_cases hr : readyE st [f] = 0
  · rw [if_pos hr] at h
    rw [if_pos hr]
    rcases burnE_cases st with hb | hb
    · rw [if_pos hb]
      exact fd_dropF_same _ _
    · rw [hb] at h; simp at h
  · rw [if_neg hr] at h
    rw [if_neg hr]
    have h9 : readyE st [f] = 9 := by
      by_cases h9 : readyE st [f] = 9
      · exact h9
      · rw [if_neg h9] at h; exact absurd h hr
    unfold readyE at h9
    split at h9
    · cases h9
    · split at h9
      · cases h9
      · rename_i hx
        cases hq : st.find f with
        | none => rfl
        | some F => simp [hq] at hx
theorem createE_zero {st : St} {f : ByteArray} (hn : st.find f = none) (h : createE st f = 0) : (createS st f).find f = some emptyF := by
  unfold createE at h
  unfold createS
  split at h
  · cases h
  · rename_i hd
    rw [if_neg hd, if_neg (by rw [hn]; simp)]
    rw [if_neg (by rw [hn]; simp)] at h
    rw [if_pos h]
    exact fd_same _ _ _ hn
theorem writeE_zero {st : St} {f b : ByteArray} (hb : b.size ≠ 0) (hn : st.find f = some emptyF) (h : writeE st f 0 b = 0) : (writeS st f 0 b).find f = some (addF emptyF ⟨(st.turn : Int) + 1, 0, b⟩) := by
  unfold writeE at h
  unfold writeS
  split at h
  · cases h
  · rename_i hd
    rw [if_neg hd, hn]
    rw [hn] at h
    simp only at h ⊢
    split at h
    · cases h
    · rename_i h1
      rw [if_neg h1]
      split at h
      · cases h
      · rename_i h2
        rw [if_neg h2, if_pos h, if_neg hb]
        exact fd_setF_same _ hn
theorem syncE_zero {st : St} {f : ByteArray} {F : FileM} (hn : st.find f = some F) (h : syncE st [f] = 0) : (syncS st [f]).find f = some (syncF F) := by
  unfold syncE deleteE at h
  unfold syncS
  by_cases hr : readyE st [f] = 0
  · rw [if_pos hr] at h
    rw [if_pos hr, if_pos h]
    show (sync1 (burnS st) f).find f = _
    unfold sync1
    rw [burn_find, hn]
    exact fd_setF_same _ (by rw [burnS_fs]; exact hn)
  · rw [if_neg hr] at h; exact absurd h hr
theorem renameE_zero {st : St} {f nm : ByteArray} {F : FileM} (hne : nm ≠ f) (hn : st.find f = some F) (h : renameE st f = 0) : (renameS st f nm).find nm = some F := by
  unfold renameE at h
  unfold renameS
  split at h
  · cases h
  · rename_i hd
    rw [if_neg hd, hn]
    rw [hn] at h
    simp only at h ⊢
    rw [if_pos h, if_neg (fun e => hne e.symm)]
    refine fd_same _ _ _ ?_
    rw [fd_dropF _ hne]
    exact fd_dropF_same _ _
def HasF (st : St) (nm : ByteArray) (b : ByteArray) : Prop := ∃ F, st.find nm = some F ∧ F.bytes = b.data.toList ∧ F.writes = []
theorem saveS_new {st : St} {f nm b : ByteArray} (hb : b.size ≠ 0) (hn : nm ≠ f) (he : saveE st f nm b = 0) : HasF (saveS st f nm b) nm b := by
  have h0 := saveE_zero he
  have h5 := fstE_zero h0
  have hE := svK_ok (svE st f nm b)
  rw [h5] at hE
  have e0 : remE st f = 0 := hE 0 (by decide)
  have e1 : createE (sv1 st f) f = 0 := hE 1 (by decide)
  have e2 : writeE (sv2 st f) f 0 b = 0 := hE 2 (by decide)
  have e3 : syncE (sv3 st f b) [f] = 0 := hE 3 (by decide)
  have e4 : renameE (sv4 st f b) f = 0 := hE 4 (by decide)
  have k1 : (sv1 st f).find f = none := remE_zero e0
  have k2 : (sv2 st f).find f = some emptyF := createE_zero k1 e1
  have k3 := writeE_zero hb k2 e2
  have k4 := syncE_zero k3 e3
  have k5 := renameE_zero hn k4 e4
  unfold saveS
  rw [if_pos h0]
  unfold fstS
  rw [h5]
  refine ⟨_, k5, ?_, rfl⟩
  show putB [] 0 b.data.toList = b.data.toList
  simp [putB]
theorem remS_cap (st : St) (f : ByteArray) : (remS st f).cap = st.cap := by
  unfold remS deleteS
  (repeat' split) <;> first | rfl | exact burnS_cap _
theorem createS_cap (st : St) (f : ByteArray) : (createS st f).cap = st.cap := by
  unfold createS
  (repeat' split) <;> first | rfl | exact burnS_cap _
theorem writeS_cap (st : St) (f : ByteArray) (x : Int) (b : ByteArray) : (writeS st f x b).cap = st.cap := by
  unfold writeS
  (repeat' split) <;> first | rfl | exact burnS_cap _
theorem sync1_cap (st : St) (f : ByteArray) : (sync1 st f).cap = st.cap := by unfold sync1; split <;> rfl
theorem syncS_cap (st : St) (f : ByteArray) : (syncS st [f]).cap = st.cap := by
  unfold syncS
  (repeat' split) <;> first | rfl | exact burnS_cap _ | exact (sync1_cap _ _).trans (burnS_cap _)
theorem renameS_cap (st : St) (f nm : ByteArray) : (renameS st f nm).cap = st.cap := by
  unfold renameS
  (repeat' split) <;> first | rfl | exact burnS_cap _
theorem svS_cap (st : St) (f nm b : ByteArray) (k : Nat) : (svS st f nm b k).cap = st.cap := by
  have h1 : (sv1 st f).cap = st.cap := remS_cap _ _
  have h2 : (sv2 st f).cap = st.cap := (createS_cap _ _).trans h1
  have h3 : (sv3 st f b).cap = st.cap := (writeS_cap _ _ _ _).trans h2
  have h4 : (sv4 st f b).cap = st.cap := (syncS_cap _ _).trans h3
  have h5 : (sv5 st f nm b).cap = st.cap := (renameS_cap _ _ _).trans h4
  match k with
  | 0 => rfl
  | 1 => exact h1
  | 2 => exact h2
  | 3 => exact h3
  | 4 => exact h4
  | k + 5 => exact h5
theorem saveS_cap (st : St) (f nm b : ByteArray) : (saveS st f nm b).cap = st.cap := by
  unfold saveS fstS
  split
  · exact svS_cap _ _ _ _ _
  · exact (remS_cap _ _).trans (svS_cap _ _ _ _ _)
theorem svS_good {n : Nat} {st : St} (h : Good n st) (f nm b : ByteArray) (k : Nat) : Good (n + 2) (svS st f nm b k) := by
  have h1 : Good n (sv1 st f) := h.delete _
  have h2 : Good (n + 1) (sv2 st f) := h1.create _
  have h3 : Good (n + 2) (sv3 st f b) := h2.write _ _ _
  have h4 : Good (n + 2) (sv4 st f b) := h3.sync _
  have h5 : Good (n + 2) (sv5 st f nm b) := h4.rename _ _
  match k with
  | 0 => exact h.more (by omega)
  | 1 => exact h1.more (by omega)
  | 2 => exact h2.more (by omega)
  | 3 => exact h3
  | 4 => exact h4
  | k + 5 => exact h5
theorem saveS_good {n : Nat} {st : St} (h : Good n st) (f nm b : ByteArray) : Good (n + 2) (saveS st f nm b) := by
  unfold saveS fstS
  split
  · exact svS_good h _ _ _ _
  · exact (svS_good h _ _ _ _).delete _
structure Ease (n : Nat) (st : St) : Prop where
  good : Good n st
  lit : st.lit = false
  down : st.down = false
theorem Ease.burnE {n : Nat} {st : St} (h : Ease n st) : burnE st = 0 := by unfold Go.Proofs.YtemimmnamajooaaGreat.burnE; rw [h.lit]; rfl
theorem Ease.burnS {n : Nat} {st : St} (h : Ease n st) : burnS st = st := by unfold Go.Proofs.YtemimmnamajooaaGreat.burnS; rw [h.lit]; rfl
theorem Ease.more {n m : Nat} {st : St} (h : Ease n st) (hm : n ≤ m) : Ease m st := ⟨h.good.more hm, h.lit, h.down⟩
theorem Ease.new (c : Int) : Ease 0 (newSt c) := ⟨Good.new c, rfl, rfl⟩
theorem setF_snoc {fs : List (ByteArray × FileM)} {f : ByteArray} (F G : FileM) (h : f ∉ fs.map (·.1)) : setF (fs ++ [(f, F)]) f G = fs ++ [(f, G)] := by
  have e : setF (fs ++ [(f, F)]) f G = setF fs f G ++ setF [(f, F)] f G := by unfold setF; rw [List.map_append]
  rw [e, setF_none G h]
  unfold setF
  rw [List.map_cons, if_pos rfl]
  rfl
theorem dropF_none {fs : List (ByteArray × FileM)} {f : ByteArray} (h : f ∉ fs.map (·.1)) : dropF fs f = fs := by
  unfold dropF
  rw [List.filter_eq_self]
  intro p hp
  have : p.1 ≠ f := fun e => h (e ▸ List.mem_map_of_mem hp)
  simp [this]
theorem dropF_snoc {fs : List (ByteArray × FileM)} {f : ByteArray} (F : FileM) (h : f ∉ fs.map (·.1)) : dropF (fs ++ [(f, F)]) f = fs := by
  have e : dropF (fs ++ [(f, F)]) f = dropF fs f ++ dropF [(f, F)] f := by unfold dropF; rw [List.filter_append]
  rw [e, dropF_none h]
  unfold dropF
  simp
theorem dropF_other {fs : List (ByteArray × FileM)} {f nm : ByteArray} (F : FileM) (h : nm ≠ f) : dropF (fs ++ [(f, F)]) nm = dropF fs nm ++ [(f, F)] := by
  have e : dropF (fs ++ [(f, F)]) nm = dropF fs nm ++ dropF [(f, F)] nm := by unfold dropF; rw [List.filter_append]
  rw [e]
  unfold dropF
  simp [Ne.symm h]
theorem dropF_names {fs : List (ByteArray × FileM)} {f nm : ByteArray} (h : f ∉ fs.map (·.1)) : f ∉ (dropF fs nm).map (·.1) := fun hx => by
  obtain ⟨p, hp, e⟩ := List.mem_map.1 hx
  exact h (List.mem_map.2 ⟨p, (List.mem_filter.1 hp).1, e⟩)
theorem find_none_names {st : St} {f : ByteArray} (h : st.find f = none) : f ∉ st.fs.map (·.1) := find_none (by
  have : (st.fs.find? fun p => decide (p.1 = f)).map (·.2) = none := h
  rw [this]; simp)
def wholeF (b : ByteArray) : FileM := ⟨b.data.toList, b.data.toList, []⟩
def savedS (st : St) (nm b : ByteArray) : St := { st with size := st.size + b.size - lenF st.fs nm, turn := st.turn + 1, fs := dropF st.fs nm ++ [(nm, wholeF b)] }
theorem lenF_snoc {fs : List (ByteArray × FileM)} {f nm : ByteArray} (F : FileM) (h : nm ≠ f) : lenF (fs ++ [(f, F)]) nm = lenF fs nm := by
  unfold lenF
  have := fd_snoc fs F h
  unfold fd at this
  rw [this]
theorem Ease.rem {n : Nat} {st : St} (h : Ease n st) {f : ByteArray} (hf : st.find f = none) : remE st f = 0 ∧ remS st f = st := by
  have h9 : readyE st [f] = 9 := by
    unfold readyE
    rw [if_neg (by rw [h.down]; simp), if_neg (by simp [hf])]
  unfold remE remS deleteE deleteS
  rw [h9]
  exact ⟨rfl, rfl⟩
theorem Ease.save1 {n : Nat} {st : St} (h : Ease n st) {f nm b : ByteArray} (hf : st.find f = none) :
    (∀ j, j < 2 → svE st f nm b j = 0) ∧ sv2 st f = { st with fs := st.fs ++ [(f, emptyF)] } := by
  obtain ⟨r1, r2⟩ := h.rem hf
  have c1 : createE st f = 0 := by unfold createE; rw [if_neg (by rw [h.down]; simp), if_neg (by rw [hf]; simp)]; exact h.burnE
  have c2 : createS st f = { st with fs := st.fs ++ [(f, emptyF)] } := by unfold createS; rw [if_neg (by rw [h.down]; simp), if_neg (by rw [hf]; simp), if_pos h.burnE, h.burnS]
  refine ⟨fun j hj => ?_, ?_⟩
  · rcases (show j = 0 ∨ j = 1 by omega) with rfl | rfl
    · exact r1
    · show createE (remS st f) f = 0
      rw [r2]; exact c1
  · show createS (remS st f) f = _
    rw [r2]; exact c2
theorem Ease.save {n : Nat} {st : St} (h : Ease n st) {f nm b : ByteArray} (hf : st.find f = none) (hne : nm ≠ f) (hb : b.size ≠ 0) (hr : st.size + b.size ≤ st.cap) :
    saveE st f nm b = 0 ∧ saveS st f nm b = savedS st nm b := by
  obtain ⟨h01, h2⟩ := h.save1 (nm := nm) (b := b) hf
  have hnf := find_none_names hf
  have d2 : (sv2 st f).down = false := by rw [h2]; exact h.down
  have b2 : Go.Proofs.YtemimmnamajooaaGreat.burnE (sv2 st f) = 0 := by unfold Go.Proofs.YtemimmnamajooaaGreat.burnE; rw [h2]; show (if st.lit = true ∧ _ then (8 : Int) else 0) = 0; rw [h.lit]; rfl
  have bs2 : Go.Proofs.YtemimmnamajooaaGreat.burnS (sv2 st f) = sv2 st f := by unfold Go.Proofs.YtemimmnamajooaaGreat.burnS; rw [if_neg (by rw [h2]; show ¬ st.lit = true; rw [h.lit]; simp)]
  have f2 : (sv2 st f).find f = some emptyF := by rw [h2]; exact fd_same _ _ _ hf
  have hmo : Go.Proofs.YtemimmnamajooaaGreat.more emptyF (0 : Int).toNat b.size = b.size := by unfold Go.Proofs.YtemimmnamajooaaGreat.more emptyF; simp
  have e2 : svE st f nm b 2 = 0 := by
    show writeE (sv2 st f) f 0 b = 0
    unfold writeE
    rw [if_neg (by rw [d2]; simp), f2]
    simp only
    rw [if_neg (by simp [emptyF]), if_neg (by rw [hmo, h2]; show ¬ st.cap - st.size < b.size; omega), b2]
  have h3 : sv3 st f b = { st with size := st.size + b.size, turn := st.turn + 1, fs := st.fs ++ [(f, addF emptyF ⟨(st.turn : Int) + 1, 0, b⟩)] } := by
    show writeS (sv2 st f) f 0 b = _
    unfold writeS
    rw [if_neg (by rw [d2]; simp), f2]
    simp only
    rw [if_neg (by simp [emptyF]), if_neg (by rw [hmo, h2]; show ¬ st.cap - st.size < b.size; omega), if_pos b2, if_neg hb, bs2, hmo, h2]
    show (⟨st.lit, st.down, st.left, st.cap, st.size + b.size, st.turn + 1, setF (st.fs ++ [(f, emptyF)]) f _⟩ : St) = _
    rw [setF_snoc _ _ hnf]
    rfl
  obtain ⟨F, hF⟩ : ∃ F, F = addF emptyF ⟨(st.turn : Int) + 1, 0, b⟩ := ⟨_, rfl⟩
  have hFs : syncF F = wholeF b := by
    rw [hF]
    show (⟨putAll [] [⟨(st.turn : Int) + 1, 0, b⟩], putB [] 0 b.data.toList, []⟩ : FileM) = _
    have : putB [] 0 b.data.toList = b.data.toList := by simp [putB]
    unfold wholeF
    rw [this]
    have : putAll [] [⟨(st.turn : Int) + 1, 0, b⟩] = putB [] 0 b.data.toList := rfl
    rw [this]
    simp [putB]
  have hFb : F.bytes.length = b.size := by
    rw [hF]
    show (putB [] 0 b.data.toList).length = _
    have : putB [] 0 b.data.toList = b.data.toList := by simp [putB]
    rw [this, text_len]
  rw [← hF] at h3
  have d3 : (sv3 st f b).down = false := by rw [h3]; exact h.down
  have l3 : (sv3 st f b).lit = false := by rw [h3]; exact h.lit
  have b3 : Go.Proofs.YtemimmnamajooaaGreat.burnE (sv3 st f b) = 0 := by unfold Go.Proofs.YtemimmnamajooaaGreat.burnE; rw [if_neg (by rw [l3]; simp)]
  have bs3 : Go.Proofs.YtemimmnamajooaaGreat.burnS (sv3 st f b) = sv3 st f b := by unfold Go.Proofs.YtemimmnamajooaaGreat.burnS; rw [if_neg (by rw [l3]; simp)]
  have f3 : (sv3 st f b).find f = some F := by rw [h3]; exact fd_same _ _ _ hf
  have y3 : readyE (sv3 st f b) [f] = 0 := by unfold readyE; rw [if_neg (by rw [d3]; simp), if_pos (by simp [f3])]
  have e3 : svE st f nm b 3 = 0 := by show syncE (sv3 st f b) [f] = 0; unfold syncE deleteE; rw [if_pos y3, b3]
  have h4 : sv4 st f b = { st with size := st.size + b.size, turn := st.turn + 1, fs := st.fs ++ [(f, wholeF b)] } := by
    show syncS (sv3 st f b) [f] = _
    unfold syncS
    rw [if_pos y3, if_pos b3, bs3]
    show sync1 (sv3 st f b) f = _
    unfold sync1
    rw [f3]
    simp only
    rw [h3, hFs]
    show (⟨st.lit, st.down, st.left, st.cap, st.size + b.size, st.turn + 1, setF (st.fs ++ [(f, F)]) f _⟩ : St) = _
    rw [setF_snoc _ _ hnf]
  have d4 : (sv4 st f b).down = false := by rw [h4]; exact h.down
  have l4 : (sv4 st f b).lit = false := by rw [h4]; exact h.lit
  have b4 : Go.Proofs.YtemimmnamajooaaGreat.burnE (sv4 st f b) = 0 := by unfold Go.Proofs.YtemimmnamajooaaGreat.burnE; rw [if_neg (by rw [l4]; simp)]
  have bs4 : Go.Proofs.YtemimmnamajooaaGreat.burnS (sv4 st f b) = sv4 st f b := by unfold Go.Proofs.YtemimmnamajooaaGreat.burnS; rw [if_neg (by rw [l4]; simp)]
  have f4 : (sv4 st f b).find f = some (wholeF b) := by rw [h4]; exact fd_same _ _ _ hf
  have e4 : svE st f nm b 4 = 0 := by show renameE (sv4 st f b) f = 0; unfold renameE; rw [if_neg (by rw [d4]; simp), f4]; exact b4
  have h5 : sv5 st f nm b = savedS st nm b := by
    show renameS (sv4 st f b) f nm = _
    unfold renameS
    rw [if_neg (by rw [d4]; simp), f4]
    simp only
    rw [if_pos b4, if_neg (fun e => hne e.symm), bs4]
    unfold moveS removeS
    rw [len_eq, h4]
    show (⟨st.lit, st.down, st.left, st.cap, st.size + b.size - lenF (st.fs ++ [(f, wholeF b)]) nm, st.turn + 1, dropF (dropF (st.fs ++ [(f, wholeF b)]) nm) f ++ [(nm, wholeF b)]⟩ : St) = _
    rw [lenF_snoc _ hne, dropF_other _ hne, dropF_snoc _ (dropF_names hnf)]
    rfl
  have hk : svK (svE st f nm b) = 5 := svK_all _ fun j hj => by
    rcases (show j < 2 ∨ j = 2 ∨ j = 3 ∨ j = 4 by omega) with hj | rfl | rfl | rfl
    · exact h01 j hj
    · exact e2
    · exact e3
    · exact e4
  have hz : fstE st f nm b = 0 := by unfold fstE; rw [hk]; rfl
  refine ⟨by unfold saveE; rw [if_pos hz], ?_⟩
  unfold saveS
  rw [if_pos hz]
  unfold fstS
  rw [hk]
  exact h5
theorem Ease.saved {n : Nat} {st : St} (h : Ease n st) {f nm b : ByteArray} (hf : st.find f = none) (hne : nm ≠ f) (hb : b.size ≠ 0) (hr : st.size + b.size ≤ st.cap) : Ease (n + 2) (savedS st nm b) := by
  have := saveS_good h.good f nm b
  rw [(h.save hf hne hb hr).2] at this
  exact ⟨this, h.lit, h.down⟩
theorem Ease.full {n : Nat} {st : St} (h : Ease n st) {f nm b : ByteArray} (hf : st.find f = none) (hr : st.cap < st.size + b.size) : saveE st f nm b = 7 := by
  obtain ⟨h01, h2⟩ := h.save1 (nm := nm) (b := b) hf
  have d2 : (sv2 st f).down = false := by rw [h2]; exact h.down
  have l2 : (sv2 st f).lit = false := by rw [h2]; exact h.lit
  have b2 : Go.Proofs.YtemimmnamajooaaGreat.burnE (sv2 st f) = 0 := by unfold Go.Proofs.YtemimmnamajooaaGreat.burnE; rw [if_neg (by rw [l2]; simp)]
  have f2 : (sv2 st f).find f = some emptyF := by rw [h2]; exact fd_same _ _ _ hf
  have hmo : Go.Proofs.YtemimmnamajooaaGreat.more emptyF (0 : Int).toNat b.size = b.size := by unfold Go.Proofs.YtemimmnamajooaaGreat.more emptyF; simp
  have hsz := h.good.size
  have e2 : svE st f nm b 2 = 7 := by
    show writeE (sv2 st f) f 0 b = 7
    unfold writeE
    rw [if_neg (by rw [d2]; simp), f2]
    simp only
    rw [if_neg (by simp [emptyF]), if_pos (by rw [hmo, h2]; show st.cap - st.size < b.size; omega)]
  have h3 : sv3 st f b = sv2 st f := by
    show writeS (sv2 st f) f 0 b = _
    unfold writeS
    rw [if_neg (by rw [d2]; simp), f2]
    simp only
    rw [if_neg (by simp [emptyF]), if_pos (by rw [hmo, h2]; show st.cap - st.size < b.size; omega)]
  have hk : svK (svE st f nm b) = 2 := svK_at _ 2 h01 (by decide) (by rw [e2]; decide)
  have hz : fstE st f nm b = 7 := by unfold fstE; rw [hk, e2]
  have hs : fstS st f nm b = sv2 st f := by unfold fstS; rw [hk]; exact h3
  have hrem : remE (sv2 st f) f = 0 := by
    have hq : readyE (sv2 st f) [f] = 0 := by unfold readyE; rw [if_neg (by rw [d2]; simp), if_pos (by simp [f2])]
    unfold remE deleteE
    rw [if_pos hq, b2]
    rfl
  unfold saveE
  rw [hz, hs, hrem]
  rfl
end Go.Proofs.YtemimmnamajooaaGreat
