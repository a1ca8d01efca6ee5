/-
  The walk of DiskLasts.
-/
import Derived.Test.YtmoehmclcegmnaaDLastP
import Derived.Test.YtmoehmclcegmnaaDOps
namespace Go.Proofs.Ytmoehmclcegmnaa
open Go.RowKit Go.Deep
attribute [local go_sem] fr_opt

def kF : ByteArray := ⟨#[107, 101, 101, 112, 32, 116, 104, 105, 115, 32, 115, 97, 102, 101]⟩
theorem kF_size : kF.size ≤ maxLen := by decide

/-- The file that was synced lies on the disk. -/
structure Keep (n : Nat) (s : ByteArray) (st : St) : Prop where
  good : Good n st
  find : st.find kF = some ⟨s.data.toList, s.data.toList, []⟩
theorem Keep.more {n m : Nat} {s : ByteArray} {st : St} (h : Keep n s st) (hm : n ≤ m) : Keep m s st := ⟨h.good.more hm, h.find⟩

/-- What Do tells, whatever the kind. -/
theorem do_any_step {w w2 : World} {n : Nat} {g : Gh} {st : St} {o : OpM} {s : ByteArray} (hk : Keep n s st) (hn : n ≤ 1048576) (hs : Small o) (hsp : Spares o kF) (hm : o.at_ ≤ 9223372036854775807 ∧ LowV w o.vn ∧ LowV w o.vk) (hw : w.heap.size ≤ w2.heap.size)
    (W : World) (h : AwG w2 W g st) (hst : Strs W 0 o.vn o.names) (hbo : BoolsOf W o.vk o.bs) :
    Calls Try.prog 12 #[.pointer (some ⟨w2.heap.size, 0, none⟩), o.val] W fun e w' => ∃ k : Int, e = .returned (.int .i64 k) ∧ ∃ g' st', AwG w2 w' g' st' ∧ Keep (n + 1) s st' := by
  obtain ⟨s1, s2, s3, s4, s5, s6⟩ := hs
  have hg := hk.good
  have hout : ∀ v, LowV w v → Out g v := fun v hl b of len cap hv h0 hb => by
    have h1 := hl b of len cap hv h0
    have h2 := h.low b hb
    omega
  have hc := do_any n g st o W h.at_ hg hn ⟨hst, hbo, hout _ hm.2.1, hout _ hm.2.2, by unfold maxLen; omega, by unfold maxLen; omega, by omega, fun t ht => by have := s6 t ht; unfold maxLen; omega, by omega, by omega, hm.1⟩
  rw [h.d] at hc
  refine hc.mono fun e w' hh => ?_
  unfold DoTo at hh
  split at hh
  · obtain ⟨rfl, l, g', hp, _, hd, ht⟩ := hh
    exact ⟨0, rfl, g', _, h.to hd ht, (hg.crash _ _ h.at_ hp).more (Nat.le_succ _), crash_find _ _ h.at_ hg hp hk.find rfl⟩
  · obtain ⟨rfl, g', hd, ht⟩ := hh
    exact ⟨_, rfl, g', _, h.to hd ht, hg.doS o hm.1, (spares_find hsp).trans hk.find⟩
/-- What All tells of it. -/
theorem all_keep {w2 : World} {n : Nat} {g : Gh} {st : St} {s : ByteArray} (hk : Keep n s st) (W : World) (h : AwG w2 W g st) :
    Calls Try.prog 13 #[.pointer (some ⟨w2.heap.size, 0, none⟩), .string kF] W fun e w' => e = .returned (.tuple #[.string (if st.down = true then ⟨#[]⟩ else s), .int .i64 (if st.down = true then 8 else 0)]) ∧ AwG w2 w' g st := by
  have hc := all_any g st kF W h.at_ kF_size
  rw [h.d] at hc
  refine hc.mono ?_
  rintro e w' ⟨rfl, hb⟩
  refine ⟨?_, h.new (Chg.of_below hb)⟩
  unfold allE
  split
  · rfl
  · rw [hk.find]
theorem down_keep {w2 : World} {g : Gh} {st : St} (W : World) (h : AwG w2 W g st) :
    Calls Try.prog 14 #[.pointer (some ⟨w2.heap.size, 0, none⟩)] W fun e w' => e = .returned (.bool st.down) ∧ AwG w2 w' g st := by
  have hc := down_any g st W h.at_
  rw [h.d] at hc
  refine hc.mono ?_
  rintro e w' ⟨rfl, rfl⟩
  exact ⟨rfl, h⟩
/-- The last crash. -/
theorem crash_keep {w2 : World} {n : Nat} {g : Gh} {st : St} {s : ByteArray} (hk : Keep n s st) (hn : n ≤ 1048576) (W : World) (h : AwG w2 W g st) :
    Calls Try.prog 15 #[.pointer (some ⟨w2.heap.size, 0, none⟩), .agg #[.slice none 0 0, .int .i64 0]] W fun e w' => e = .returned (.tuple #[]) ∧ ∃ g' st', AwG w2 w' g' st' ∧ Keep n s st' ∧ st'.down = false := by
  have hg := hk.good
  have hc := crash_any g st (.slice none 0 0) [] 0 W h.at_ ⟨none, 0, rfl, .inl rfl⟩ (hg.waits hn) (by decide) (hg.allIn (by omega)) (fun l hp _ => by
    have h1 := (hg.crash [] 0 h.at_ hp).size
    have h2 : (crashS st (imgs (g.es.map skel) (cutLast (keepL l []) 0))).cap = st.cap := rfl
    have h3 := hg.cap
    rw [h2] at h1
    exact Nat.le_trans h1 (by omega))
  rw [h.d] at hc
  refine hc.mono ?_
  rintro e w' ⟨rfl, l, g', hp, _, hd, ht⟩
  exact ⟨rfl, g', _, h.to hd ht, ⟨hg.crash [] 0 h.at_ hp, crash_find [] 0 h.at_ hg hp hk.find rfl⟩, rfl⟩

/-! ### the beginning -/
def kS1 : St := ⟨false, false, 0, 100000, 0, 0, [(kF, ⟨[], [], []⟩)]⟩
theorem k_create {w0 w : World} {g : Gh} (h : AwG w0 w g (newSt 100000)) : Calls Try.prog 9 #[.pointer (some ⟨w0.heap.size, 0, none⟩), .string kF] w (AwTo w0 0 kS1) := by
  have hc := create_any g (newSt 100000) kF w h.at_ kF_size ⟨by decide, by decide⟩ (by decide)
  rw [h.d] at hc
  exact hc.mono fun e w' hh => h.op (hh.congr (by rfl) (by rfl))
theorem good_k1 : Good 1 kS1 := (Good.new 100000).create kF
theorem putB_all (s : ByteArray) : putB [] 0 s.data.toList = s.data.toList := by
  unfold putB
  split
  · rename_i h; exact h.symm
  · simp
def kS2 (s : ByteArray) : St := if s.size = 0 then kS1 else ⟨false, false, 0, 100000, s.size, 1, [(kF, ⟨[], s.data.toList, [⟨1, 0, s⟩]⟩)]⟩
theorem write_k2 (s : ByteArray) (hs : s.size ≤ 300) : writeS kS1 kF 0 s = kS2 s ∧ writeE kS1 kF 0 s = 0 := by
  have hf : kS1.find kF = some ⟨[], [], []⟩ := rfl
  have hm : ¬ (kS1.cap - kS1.size < more ⟨[], [], []⟩ (Int.toNat 0) s.size) := by
    unfold more
    have : kS1.cap - kS1.size = 100000 := rfl
    show ¬ (_ < 0 + s.size - 0)
    omega
  refine ⟨?_, ?_⟩
  · unfold writeS kS2
    rw [if_neg (by decide), hf]
    simp only
    rw [if_neg (by simp), if_neg hm, if_pos (by decide)]
    split
    · rfl
    · unfold setF addF more
      simp [kS1, burnS, putB_all]
  · unfold writeE
    rw [if_neg (by decide), hf]
    simp only
    rw [if_neg (by simp), if_neg hm]
    rfl
theorem good_k2 (s : ByteArray) (hs : s.size ≤ 300) : Good 2 (kS2 s) := by
  have := good_k1.write kF 0 s
  rwa [(write_k2 s hs).1] at this
theorem k_write {w0 w : World} {g : Gh} (s : ByteArray) (hs : s.size ≤ 300) (h : AwG w0 w g kS1) : Calls Try.prog 10 #[.pointer (some ⟨w0.heap.size, 0, none⟩), .string kF, .int .i64 0, .string s] w (AwTo w0 0 (kS2 s)) := by
  have hc := write_any g kS1 kF 0 s w h.at_ kF_size ⟨by decide, by decide⟩ (by omega) (by decide) (by decide) (by decide)
    (fun f hf => by have : f = ⟨[], [], []⟩ := (Option.some.inj hf).symm; subst this; decide)
  rw [h.d] at hc
  exact hc.mono fun e w' hh => h.op (hh.congr (write_k2 s hs).2 (write_k2 s hs).1)
theorem sync_k3 (s : ByteArray) (hs : s.size ≤ 300) : syncE (kS2 s) [kF] = 0 ∧ Keep 2 s (syncS (kS2 s) [kF]) := by
  have hg := (good_k2 s hs).sync [kF]
  by_cases h0 : s.size = 0
  · have hl : s.data.toList = [] := List.length_eq_zero_iff.1 (by rw [text_len, h0])
    have e : kS2 s = kS1 := if_pos h0
    rw [e] at hg ⊢
    exact ⟨rfl, hg, by rw [hl]; rfl⟩
  · have e : kS2 s = ⟨false, false, 0, 100000, s.size, 1, [(kF, ⟨[], s.data.toList, [⟨1, 0, s⟩]⟩)]⟩ := if_neg h0
    rw [e] at hg ⊢
    refine ⟨rfl, hg, ?_⟩
    have h1 : (syncS ⟨false, false, 0, 100000, s.size, 1, [(kF, ⟨[], s.data.toList, [⟨1, 0, s⟩]⟩)]⟩ [kF]).find kF = some ⟨putB [] 0 s.data.toList, s.data.toList, []⟩ := rfl
    rw [h1, putB_all]
theorem k_sync {w0 w : World} {g : Gh} (s : ByteArray) (hs : s.size ≤ 300) (h : AwG w0 w g (kS2 s)) (v : Value) (hv : Strs w 0 v [kF]) (ho : Out g v) : Calls Try.prog 11 #[.pointer (some ⟨w0.heap.size, 0, none⟩), v] w (fun e w' => e = .returned (.int .i64 0) ∧ ∃ g st, AwG w0 w' g st ∧ Keep 2 s st) := by
  have hg := good_k2 s hs
  have hc := syncd_any g (kS2 s) v [kF] w h.at_ hv ho (fun t ht => by simp at ht; exact ht ▸ kF_size) (by decide) hg.fuse (hg.allIn (by decide))
  rw [h.d] at hc
  refine hc.mono fun e w' hh => ?_
  obtain ⟨h1, g', h2⟩ := h.op (hh.congr (sync_k3 s hs).1 rfl)
  exact ⟨h1, g', _, h2, (sync_k3 s hs).2⟩
end Go.Proofs.Ytmoehmclcegmnaa
