/-
  What stays true of a disk, whatever is done to it.
-/
import Derived.Test.YtgephceihkkokaaGreatDoorDAwake
namespace Go.Proofs.YtgephceihkkokaaGreatDoor
open Go.RowKit Go.Deep

/-- A file whose bytes are its image with the writes done to it. -/
structure GoodF (n : Nat) (f : FileM) : Prop where
  bytes : f.bytes = putAll f.image f.writes
  image : f.image.length ≤ f.bytes.length
  writes : ∀ x ∈ f.writes, x.at_ + x.s.size ≤ f.bytes.length
  count : f.writes.length ≤ n
/-- How many bytes lie in these files. -/
def sumB (fs : List (ByteArray × FileM)) : Nat := (fs.map fun p => p.2.bytes.length).sum
structure Good (n : Nat) (st : St) : Prop where
  fuse : FuseOk st
  cap : st.cap ≤ 16777216
  size : st.size ≤ st.cap
  sum : st.size = sumB st.fs
  names : (st.fs.map (·.1)).Nodup
  turn : st.turn ≤ n
  len : st.fs.length ≤ n
  files : ∀ p ∈ st.fs, GoodF n p.2

theorem GoodF.more {n m : Nat} {f : FileM} (h : GoodF n f) (hm : n ≤ m) : GoodF m f := ⟨h.bytes, h.image, h.writes, Nat.le_trans h.count hm⟩
theorem Good.more {n m : Nat} {st : St} (h : Good n st) (hm : n ≤ m) : Good m st :=
  ⟨h.fuse, h.cap, h.size, h.sum, h.names, Nat.le_trans h.turn hm, Nat.le_trans h.len hm, fun p hp => (h.files p hp).more hm⟩
theorem Good.sizeOk {n : Nat} {st : St} (h : Good n st) : SizeOk st := ⟨h.sum, h.names⟩
theorem mem_sumB {fs : List (ByteArray × FileM)} {p : ByteArray × FileM} (h : p ∈ fs) : p.2.bytes.length ≤ sumB fs := by
  obtain ⟨l1, l2, rfl⟩ := List.append_of_mem h
  unfold sumB
  simp only [List.map_append, List.map_cons, List.sum_append_nat, List.sum_cons]
  omega
theorem Good.within {n : Nat} {st : St} (h : Good n st) (hn : n ≤ 1073741824) {p : ByteArray × FileM} (hp : p ∈ st.fs) : Within p.2 1073741824 := by
  have h1 := mem_sumB hp
  have h2 := h.sum
  have h3 := h.size
  have h4 := h.cap
  have hf := h.files p hp
  have h5 := hf.image
  have h6 := hf.count
  refine ⟨by omega, by omega, by omega, fun x hx => ?_⟩
  have := hf.writes x hx
  omega
theorem Good.allIn {n : Nat} {st : St} (h : Good n st) (hn : n ≤ 1073741824) : AllIn st 1099511627776 := fun p hp => by
  obtain ⟨h1, h2, h3, h4⟩ := h.within hn hp
  refine ⟨by omega, by omega, by omega, fun x hx => ?_⟩
  have := h4 x hx
  omega
theorem Good.new (c : Int) : Good 0 (newSt c) := by
  refine ⟨⟨fun h => (by cases h), (by show (0 : Int) ≤ _; omega)⟩, ?_, Nat.zero_le _, rfl, List.nodup_nil, Nat.le_refl _, Nat.le_refl _, fun p hp => (by cases hp)⟩
  show (min (max c 0) 16777216).toNat ≤ 16777216
  omega
theorem FuseOk.burn {st : St} (h : FuseOk st) : FuseOk (burnS st) := by
  unfold burnS
  split
  · rename_i h1
    split
    · exact h
    · rename_i h2
      have h3 := h.1 h1
      have h4 := h.2
      refine ⟨fun _ => ?_, ?_⟩
      · show 0 ≤ st.left - 1
        omega
      · show st.left - 1 ≤ _
        omega
  · exact h
theorem Good.burn {n : Nat} {st : St} (h : Good n st) : Good n (burnS st) := by
  refine ⟨h.fuse.burn, ?_, ?_, ?_, ?_, ?_, ?_, ?_⟩
  · rw [burnS_cap]; exact h.cap
  · rw [burnS_cap, burnS_size]; exact h.size
  · rw [burnS_fs, burnS_size]; exact h.sum
  · rw [burnS_fs]; exact h.names
  · rw [burnS_turn]; exact h.turn
  · rw [burnS_fs]; exact h.len
  · rw [burnS_fs]; exact h.files
theorem goodF_empty (n : Nat) : GoodF n emptyF := ⟨rfl, Nat.le_refl _, fun x hx => (by cases hx), Nat.zero_le _⟩
theorem find_none {fs : List (ByteArray × FileM)} {nm : ByteArray} (h : ¬ (((fs.find? fun p => decide (p.1 = nm)).map (·.2)).isSome = true)) : nm ∉ fs.map (·.1) := fun hx => by
  obtain ⟨p, hp, rfl⟩ := List.mem_map.1 hx
  apply h
  rw [Option.isSome_map, List.find?_isSome]
  exact ⟨p, hp, by simp⟩
theorem Good.create {n : Nat} {st : St} (h : Good n st) (nm : ByteArray) : Good (n + 1) (createS st nm) := by
  unfold createS
  split
  · exact h.more (Nat.le_succ _)
  · split
    · exact h.more (Nat.le_succ _)
    · rename_i hf
      split
      · have hb := h.burn
        refine ⟨hb.fuse, hb.cap, hb.size, ?_, ?_, Nat.le_succ_of_le hb.turn, ?_, ?_⟩
        · show (burnS st).size = sumB (st.fs ++ [(nm, emptyF)])
          rw [burnS_size, h.sum]
          unfold sumB
          simp [emptyF]
        · show ((st.fs ++ [(nm, emptyF)]).map (·.1)).Nodup
          rw [List.map_append, List.nodup_append]
          refine ⟨h.names, by simp, fun a ha b hb' hab => ?_⟩
          simp at hb'
          subst hb'
          subst hab
          exact find_none hf ha
        · show (st.fs ++ [(nm, emptyF)]).length ≤ n + 1
          rw [List.length_append]
          have := h.len
          simp; omega
        · intro p hp
          rcases List.mem_append.1 hp with h1 | h1
          · exact (h.files p h1).more (Nat.le_succ _)
          · simp at h1; subst h1; exact goodF_empty _
      · exact h.burn.more (Nat.le_succ _)

theorem setF_none {fs : List (ByteArray × FileM)} {nm : ByteArray} (f : FileM) (h : nm ∉ fs.map (·.1)) : setF fs nm f = fs := by
  unfold setF
  refine (List.map_congr_left fun p hp => ?_).trans (List.map_id _)
  exact if_neg fun (e : p.1 = nm) => h (e ▸ List.mem_map_of_mem hp)
theorem sumB_cons (p : ByteArray × FileM) (l : List (ByteArray × FileM)) : sumB (p :: l) = p.2.bytes.length + sumB l := rfl
theorem sumB_setF {fs : List (ByteArray × FileM)} {nm : ByteArray} {f : FileM} (f' : FileM) (hn : (fs.map (·.1)).Nodup) (hf : (fs.find? fun p => decide (p.1 = nm)).map (·.2) = some f) :
    sumB (setF fs nm f') + f.bytes.length = sumB fs + f'.bytes.length := by
  induction fs with
  | nil => cases hf
  | cons p l ih =>
    rw [List.map_cons, List.nodup_cons] at hn
    by_cases hp : p.1 = nm
    · rw [List.find?_cons_of_pos (by simp [hp])] at hf
      obtain rfl : p.2 = f := Option.some.inj hf
      have h1 : setF (p :: l) nm f' = (nm, f') :: setF l nm f' := by unfold setF; rw [List.map_cons, if_pos hp]
      rw [h1, setF_none f' (hp ▸ hn.1), sumB_cons, sumB_cons]
      show f'.bytes.length + sumB l + p.2.bytes.length = p.2.bytes.length + sumB l + f'.bytes.length
      omega
    · rw [List.find?_cons_of_neg (by simp [hp])] at hf
      have h1 : setF (p :: l) nm f' = p :: setF l nm f' := by unfold setF; rw [List.map_cons, if_neg hp]
      have := ih hn.2 hf
      rw [h1, sumB_cons, sumB_cons]
      omega
theorem mem_setF {fs : List (ByteArray × FileM)} {nm : ByteArray} {f : FileM} {p : ByteArray × FileM} (h : p ∈ setF fs nm f) : p ∈ fs ∨ p = (nm, f) := by
  obtain ⟨q, hq, rfl⟩ := List.mem_map.1 h
  by_cases hp : q.1 = nm
  · exact .inr (if_pos hp)
  · rw [if_neg hp]; exact .inl hq
theorem Good.set {n m : Nat} {st : St} (h : Good n st) (hm : n ≤ m) {nm : ByteArray} {f f' : FileM} (hf : st.find nm = some f) (hg : GoodF m f') (k t : Nat) (hk : k + f.bytes.length = st.size + f'.bytes.length) (hc : k ≤ st.cap) (ht : t ≤ m) :
    Good m { st with size := k, turn := t, fs := setF st.fs nm f' } := by
  refine ⟨h.fuse, h.cap, hc, ?_, ?_, ht, ?_, ?_⟩
  · show k = sumB (setF st.fs nm f')
    have := sumB_setF f' h.names hf
    have := h.sum
    omega
  · show ((setF st.fs nm f').map (·.1)).Nodup
    rw [names_setF]; exact h.names
  · show (setF st.fs nm f').length ≤ m
    unfold setF
    rw [List.length_map]
    exact Nat.le_trans h.len hm
  · intro p hp
    rcases mem_setF hp with h1 | rfl
    · exact (h.files p h1).more hm
    · exact hg
theorem Good.file {n : Nat} {st : St} (h : Good n st) {nm : ByteArray} {f : FileM} (hf : st.find nm = some f) : GoodF n f := h.files _ (find_mem hf)
theorem text_len (s : ByteArray) : s.data.toList.length = s.size := by rw [Array.length_toList]; rfl
theorem putB_size (b : List UInt8) (a : Nat) (s : ByteArray) (hs : s.size ≠ 0) : (putB b a s.data.toList).length = max b.length (a + s.size) := by
  rw [putB_length _ _ _ (fun e => hs (by rw [← text_len, e]; rfl)), text_len]
theorem GoodF.add {n : Nat} {f : FileM} (h : GoodF n f) (x : WriteM) (hx : x.s.size ≠ 0) : GoodF (n + 1) (addF f x) := by
  have hl := putB_size f.bytes x.at_ x.s hx
  refine ⟨?_, ?_, ?_, ?_⟩
  · show putB f.bytes _ _ = putAll f.image (f.writes ++ [x])
    rw [putAll_snoc, ← h.bytes]
  · show f.image.length ≤ (putB f.bytes _ _).length
    have := h.image
    omega
  · intro y hy
    show _ ≤ (putB f.bytes _ _).length
    rcases List.mem_append.1 hy with h1 | h1
    · have := h.writes y h1
      omega
    · simp at h1; subst h1; omega
  · show (f.writes ++ [x]).length ≤ n + 1
    have := h.count
    simp; omega
theorem GoodF.sync {n : Nat} {f : FileM} (h : GoodF n f) : GoodF n (syncF f) := by
  refine ⟨h.bytes, ?_, fun x hx => (by cases hx), Nat.zero_le _⟩
  show (putAll f.image f.writes).length ≤ f.bytes.length
  rw [← h.bytes]
  exact Nat.le_refl _
theorem GoodF.cut {n : Nat} {f : FileM} (h : GoodF n f) (k : Nat) : GoodF n (cutF f k) := by
  refine ⟨?_, ?_, fun x hx => (by cases hx), Nat.zero_le _⟩
  · show f.bytes.take k = (putAll f.image f.writes).take k
    rw [← h.bytes]
  · show ((putAll f.image f.writes).take k).length ≤ (f.bytes.take k).length
    rw [← h.bytes]
    exact Nat.le_refl _
theorem burn_find (st : St) (nm : ByteArray) : (burnS st).find nm = st.find nm := by unfold St.find; rw [burnS_fs]
theorem Good.write {n : Nat} {st : St} (h : Good n st) (nm : ByteArray) (a : Int) (s : ByteArray) : Good (n + 1) (writeS st nm a s) := by
  have h0 := h.more (Nat.le_succ n)
  have hb := h0.burn
  unfold writeS
  split
  · exact h0
  · split
    · exact h0
    · rename_i f hf
      split
      · exact h0
      · split
        · exact h0
        · rename_i hr
          split
          · split
            · exact hb
            · rename_i hs
              have hl := putB_size f.bytes a.toNat s hs
              have hlen : (addF f ⟨(st.turn : Int) + 1, a.toNat, s⟩).bytes.length = (putB f.bytes a.toNat s.data.toList).length := rfl
              have h1 := h.size
              unfold Go.Proofs.YtgephceihkkokaaGreatDoor.more at hr ⊢
              rw [← burnS_fs st]
              refine h.burn.set (Nat.le_succ n) (f := f) (by rw [burn_find]; exact hf) ((h.file hf).add _ hs) _ _ ?_ ?_ ?_
              · rw [burnS_size, hlen]; omega
              · rw [burnS_cap]; omega
              · exact Nat.succ_le_succ h.turn
          · exact hb
theorem Good.sync1 {n : Nat} {st : St} (h : Good n st) (nm : ByteArray) : Good n (sync1 st nm) := by
  unfold Go.Proofs.YtgephceihkkokaaGreatDoor.sync1
  split
  · exact h
  · rename_i f hf
    exact h.set (Nat.le_refl n) hf (h.file hf).sync st.size st.turn rfl h.size h.turn
theorem Good.syncAll {n : Nat} {st : St} (h : Good n st) (ts : List ByteArray) : Good n (syncAll st ts) := by
  unfold Go.Proofs.YtgephceihkkokaaGreatDoor.syncAll
  induction ts generalizing st with
  | nil => exact h
  | cons t ts ih => exact ih (h.sync1 t)
theorem Good.sync {n : Nat} {st : St} (h : Good n st) (ts : List ByteArray) : Good n (syncS st ts) := by
  unfold syncS
  split
  · split
    · exact h.burn.syncAll ts
    · exact h.burn
  · exact h
theorem Good.cut {n : Nat} {st : St} (h : Good n st) (nm : ByteArray) (k : Int) : Good n (cutS st nm k) := by
  unfold cutS
  split
  · exact h
  · split
    · exact h
    · rename_i f hf
      split
      · exact h
      · rename_i hk
        split
        · have hlen : (cutF f k.toNat).bytes.length = min k.toNat f.bytes.length := by show (f.bytes.take _).length = _; rw [List.length_take]
          have h1 := h.size
          have h2 := h.sum
          have h3 := mem_sumB (find_mem hf)
          simp only at h3
          rw [← burnS_fs st]
          refine h.burn.set (Nat.le_refl n) (f := f) (by rw [burn_find]; exact hf) ((h.file hf).cut _) _ _ ?_ ?_ h.burn.turn
          · rw [burnS_size, hlen]; omega
          · rw [burnS_cap]; omega
        · exact h.burn

theorem sumB_dropF {fs : List (ByteArray × FileM)} (hn : (fs.map (·.1)).Nodup) (nm : ByteArray) : sumB (dropF fs nm) + lenF fs nm = sumB fs := len_split hn nm
theorem names_dropF (fs : List (ByteArray × FileM)) (nm : ByteArray) (hn : (fs.map (·.1)).Nodup) : ((dropF fs nm).map (·.1)).Nodup ∧ nm ∉ (dropF fs nm).map (·.1) := by
  refine ⟨?_, fun hx => ?_⟩
  · unfold dropF
    exact List.Nodup.sublist ((List.filter_sublist).map _) hn
  · obtain ⟨p, hp, rfl⟩ := List.mem_map.1 hx
    have := (List.mem_filter.1 hp).2
    simp at this
theorem Good.remove {n : Nat} {st : St} (h : Good n st) (nm : ByteArray) : Good n (removeS st nm) := by
  have h1 := sumB_dropF h.names nm
  have h2 := h.sum
  have h3 := h.size
  refine ⟨h.fuse, h.cap, ?_, ?_, (names_dropF _ nm h.names).1, h.turn, ?_, fun p hp => h.files p (List.mem_filter.1 hp).1⟩
  · show st.size - st.len nm ≤ st.cap
    omega
  · show st.size - st.len nm = sumB (dropF st.fs nm)
    rw [len_eq]; omega
  · exact Nat.le_trans (List.length_filter_le _ _) h.len
theorem Good.deleteAll {n : Nat} {st : St} (h : Good n st) (ts : List ByteArray) : Good n (deleteAll st ts) := by
  unfold Go.Proofs.YtgephceihkkokaaGreatDoor.deleteAll
  induction ts generalizing st with
  | nil => exact h
  | cons t ts ih => exact ih (h.remove t)
theorem Good.delete {n : Nat} {st : St} (h : Good n st) (ts : List ByteArray) : Good n (deleteS st ts) := by
  unfold deleteS
  split
  · split
    · exact h.burn.deleteAll ts
    · exact h.burn
  · exact h
theorem find_dropF {fs : List (ByteArray × FileM)} {a b : ByteArray} (hab : a ≠ b) : (dropF fs b).find? (fun p => decide (p.1 = a)) = fs.find? (fun p => decide (p.1 = a)) := by
  unfold dropF
  rw [List.find?_filter]
  congr 1
  funext p
  by_cases hp : p.1 = a
  · subst hp; simp [hab]
  · simp [hp]
theorem Good.rename {n : Nat} {st : St} (h : Good n st) (a b : ByteArray) : Good n (renameS st a b) := by
  unfold renameS
  split
  · exact h
  · split
    · exact h
    · rename_i f hf
      split
      · split
        · exact h.burn
        · rename_i hab
          have hr := h.burn.remove b
          have hfa : (dropF (burnS st).fs b).find? (fun p => decide (p.1 = a)) = (burnS st).fs.find? (fun p => decide (p.1 = a)) := find_dropF hab
          have hl : lenF (dropF (burnS st).fs b) a = f.bytes.length := by
            unfold lenF
            rw [hfa, burnS_fs]
            have : (st.fs.find? fun p => decide (p.1 = a)).map (·.2) = some f := hf
            rw [this]
          have h1 := sumB_dropF hr.names a
          have h2 := hr.sum
          have h3 : (removeS (burnS st) b).fs = dropF (burnS st).fs b := rfl
          rw [h3] at h1 h2
          have hd := names_dropF _ a hr.names
          rw [h3] at hd
          have hb : b ∉ (dropF (dropF (burnS st).fs b) a).map (·.1) := fun hx => by
            obtain ⟨p, hp, hpb⟩ := List.mem_map.1 hx
            exact (names_dropF _ b h.burn.names).2 (List.mem_map.2 ⟨p, (List.mem_filter.1 hp).1, hpb⟩)
          have hmem := find_mem hf
          have hfl : (dropF (dropF (burnS st).fs b) a).length + 1 ≤ (dropF (burnS st).fs b).length := by
            have hm : (a, f) ∈ dropF (burnS st).fs b := List.mem_filter.2 ⟨by rw [burnS_fs]; exact hmem, by simp [hab]⟩
            exact List.length_filter_lt_length_iff_exists.2 ⟨_, hm, by simp⟩
          refine ⟨hr.fuse, hr.cap, hr.size, ?_, ?_, hr.turn, ?_, ?_⟩
          · show (removeS (burnS st) b).size = sumB (dropF (dropF (burnS st).fs b) a ++ [(b, f)])
            have h4 : sumB (dropF (dropF (burnS st).fs b) a ++ [(b, f)]) = sumB (dropF (dropF (burnS st).fs b) a) + f.bytes.length := by
              unfold sumB
              simp
            rw [h4]
            omega
          · show ((dropF (dropF (burnS st).fs b) a ++ [(b, f)]).map (·.1)).Nodup
            rw [List.map_append, List.nodup_append]
            refine ⟨hd.1, by simp, fun x hx y hy hxy => ?_⟩
            simp at hy
            subst hy
            subst hxy
            exact hb hx
          · show (dropF (dropF (burnS st).fs b) a ++ [(b, f)]).length ≤ n
            have := hr.len
            rw [h3] at this
            rw [List.length_append]
            simp
            omega
          · intro p hp
            rcases List.mem_append.1 hp with h5 | h5
            · exact h.burn.files p (List.mem_filter.1 (List.mem_filter.1 h5).1).1
            · simp at h5; subst h5; exact h.file hf
      · exact h.burn
theorem Good.fuseS {n : Nat} {st : St} (h : Good n st) (k : Int) (hk : k ≤ 9223372036854775807) : Good n (fuseS st k) :=
  ⟨⟨fun hl => by have : decide (0 ≤ k) = true := hl; show 0 ≤ k; simpa using this, hk⟩, h.cap, h.size, h.sum, h.names, h.turn, h.len, h.files⟩
end Go.Proofs.YtgephceihkkokaaGreatDoor
