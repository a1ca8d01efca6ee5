/-
  Get.
-/
import Derived.Test.YtelpkniockhjgaaGreatRecI
namespace Go.Proofs.YtelpkniockhjgaaGreat
open Go.RowKit Go.Deep
set_option linter.unusedVariables false
set_option linter.unusedSimpArgs false

theorem opened_any (t : Nat) (s : ByteArray) (m : MsgM) (x : Int) (w : World) (ht : Cr.Tab w t) (h3 : 3 ≤ s.size) (hs : s.size ≤ 1000000) (hm : openedS s = (m, x)) :
    Calls Tryz.prog 32 #[.pointer (some ⟨t, 0, none⟩), .string s] w (OpenTo m x w) := by
  cases hf : hasB s fH with
  | true => exact opened_fill t s m x w h3 hs hf hm
  | false => exact opened_rec t s m x w ht h3 hs hf hm
def GetTo (m : MsgM) (n x : Int) (w : World) (e : Ending) (w' : World) : Prop := ∃ vk, e = .returned (.tuple #[m.val vk, .int .i64 n, .int .i64 x]) ∧ Strs w' w.heap.size vk m.keys ∧ CapOk vk ∧ Below w.heap.size w w'
theorem lenS_ok {s : ByteArray} {n : Int} (h : lenS s = (n, 0)) : 3 ≤ n ∧ n ≤ s.size ∧ n = (toldN s : Int) := by
  unfold lenS at h
  split at h
  · simp at h
  · split at h
    · simp at h
    · split at h
      · simp at h
      · split at h
        · simp at h
        · simp only [Prod.mk.injEq] at h
          omega
theorem lenS_bad {s : ByteArray} {n x : Int} (h : lenS s = (n, x)) (hx : x ≠ 0) : n = 0 := by
  unfold lenS at h
  split at h
  · simp only [Prod.mk.injEq] at h; omega
  · split at h
    · simp only [Prod.mk.injEq] at h; omega
    · split at h
      · simp only [Prod.mk.injEq] at h; omega
      · split at h
        · simp only [Prod.mk.injEq] at h; omega
        · simp only [Prod.mk.injEq] at h; omega
set_option maxHeartbeats 4000000 in
set_option maxRecDepth 100000 in
theorem get_none (s : ByteArray) (w : World) : Calls Tryz.prog 11 #[.pointer none, .string s] w (GetTo zeroM 0 1 w) := by
  obtain ⟨W0, hW0⟩ : ∃ W, W = w.alloc (.cells #[.int .i64 0, .int .i64 0, .int .i64 0, .int .i64 0, .int .i64 0, .int .i64 0, .string ⟨#[]⟩, .string ⟨#[]⟩, .string ⟨#[]⟩, .slice none 0 0] 24) := ⟨_, rfl⟩
  have hb0 : Box W0 w.heap.size zc := hW0 ▸ box_zero w
  have hl0 : Below w.heap.size w W0 := hW0 ▸ (Below.refl _ _).alloc (Nat.le_refl _) _
  have hz0 : w.heap.size + 1 = W0.heap.size := by rw [hW0, World.size_alloc]
  have HZ := Lib.hid hb0
  have HBL := Lib.hid hl0
  have HW0 := Lib.hid hW0
  have hzm := hb0.cell
  have hzf := hb0.free
  simp only [zc] at hzm
  clear hb0 hl0 hW0 hz0
  go_enter Tryz.func11, Tryz.ntmps11
  go_wp2_with fail
  have hpm := HZ.out.cell
  rw [← HW0.out]
  exact bodyPost_ret (v := .tuple #[zeroM.val (.slice none 0 0), .int .i64 0, .int .i64 1]) (by simp [results, Tryz.results11, go_sem, hpm, zc, zeroM, MsgM.val, MsgM.cells]) rfl ⟨.slice none 0 0, rfl, ⟨none, 0, rfl, .inl rfl⟩, ⟨none, 0, 0, rfl, Nat.le_refl _⟩, HBL.out⟩
set_option maxHeartbeats 4000000 in
set_option maxRecDepth 100000 in
theorem get_any (t : Nat) (s : ByteArray) (m : MsgM) (n x : Int) (w : World) (ht : Cr.Tab w t) (hs : s.size ≤ 1000000) (hm : getS s = (m, n, x)) :
    Calls Tryz.prog 11 #[.pointer (some ⟨t, 0, none⟩), .string s] w (GetTo m n x w) := by
  have htl : t < w.heap.size := ht.lt
  obtain ⟨W0, hW0⟩ : ∃ W, W = w.alloc (.cells #[.int .i64 0, .int .i64 0, .int .i64 0, .int .i64 0, .int .i64 0, .int .i64 0, .string ⟨#[]⟩, .string ⟨#[]⟩, .string ⟨#[]⟩, .slice none 0 0] 24) := ⟨_, rfl⟩
  have hb0 : Box W0 w.heap.size zc := hW0 ▸ box_zero w
  have hl0 : Below w.heap.size w W0 := hW0 ▸ (Below.refl _ _).alloc (Nat.le_refl _) _
  have hz0 : w.heap.size + 1 = W0.heap.size := by rw [hW0, World.size_alloc]
  obtain ⟨ln, lx, hl⟩ : ∃ a b, lenS s = (a, b) := ⟨_, _, rfl⟩
  unfold getS at hm
  rw [hl] at hm
  simp only at hm
  have HL := Lib.hid fun W => length_any s ln lx W (by unfold maxLen; omega) hl
  have HB0 := Lib.hid hb0
  have HL0 := Lib.hid hl0
  have HW0 := Lib.hid hW0
  have HZ0 := Lib.hid hz0
  by_cases hx : lx = 0
  · subst hx
    rw [if_neg (by decide)] at hm
    have n3 := (lenS_ok hl).1
    have n4 := (lenS_ok hl).2.1
    obtain ⟨k, hk⟩ : ∃ k : Nat, ln = (k : Int) := ⟨ln.toNat, by omega⟩
    have hkn : ln.toNat = k := by omega
    rw [hkn] at hm
    subst hk
    obtain ⟨m1, x1, ho⟩ : ∃ a b, openedS (s.extract 0 k) = (a, b) := ⟨_, _, rfl⟩
    rw [ho] at hm
    simp only at hm
    have hez : (s.extract 0 k).size = k := by rw [ByteArray.size_extract]; omega
    have HO : Hid (∀ W, Below W0.heap.size W0 W → Calls Tryz.prog 32 #[.pointer (some ⟨t, 0, none⟩), .string (s.extract 0 k)] W (OpenTo m1 x1 W)) := Lib.hid fun W hb =>
      opened_any t (s.extract 0 k) m1 x1 W (Cr.Tab.below ht (hl0.trans (hb.mono hl0.size)) htl) (by omega) (by omega) ho
    clear hb0 hl0 hW0 hz0 ht htl hl ho hez hkn
    by_cases hx1 : x1 = 0
    · subst hx1
      rw [if_neg (by decide)] at hm
      simp only [Prod.mk.injEq] at hm
      obtain ⟨rfl, rfl, rfl⟩ := hm
      go_enter Tryz.func11, Tryz.ntmps11
      go_wp2_with fail
      rw [← HW0.out]
      refine (HL.out W0).mono ?_
      rintro e w1 ⟨rfl, hb⟩
      have HZ1 := Lib.hid (HB0.out.below hb HB0.out.lt)
      have HBL1 := Lib.hid (HL0.out.trans (hb.mono HL0.out.size))
      have HOK := Lib.hid (HO.out w1 hb)
      clear hb
      go_wp2_with fail
      refine HOK.out.mono ?_
      rintro e w3 ⟨vk, rfl, hst, hcap, hb⟩
      obtain ⟨va, vl, vcp, rfl, hle⟩ := hcap
      have HCAP := Lib.hid (show CapOk (.slice va vl vcp) from ⟨va, vl, vcp, rfl, hle⟩)
      have HZ := Lib.hid (HZ1.out.below hb HZ1.out.lt)
      have HBL := Lib.hid (HBL1.out.trans (hb.mono HBL1.out.size))
      have HLT2 := Lib.hid HZ1.out.lt
      have HST := Lib.hid hst
      have hzm := HZ.out.cell
      have hzf := HZ.out.free
      have hlt := HZ.out.lt
      simp only [zc] at hzm
      clear hb hst hle
      unfold MsgM.val MsgM.cells
      obtain ⟨kind, queue, due, retry, ref, born, topic, tag, body, keys⟩ := m1
      simp only
      go_wp2_with fail
      obtain ⟨W, hW⟩ : ∃ W, W = (set10 w3 w.heap.size (.int .i64 kind) (.int .i64 queue) (.int .i64 due) (.int .i64 retry) (.int .i64 ref) (.int .i64 born) (.string topic) (.string tag) (.string body) (.slice va vl vcp)).alloc (.cells #[.int .i64 kind, .int .i64 queue, .int .i64 due, .int .i64 retry, .int .i64 ref, .int .i64 born, .string topic, .string tag, .string body, .slice va vl vcp] 24) := ⟨_, rfl⟩
      have hbx : Box W w.heap.size #[.int .i64 kind, .int .i64 queue, .int .i64 due, .int .i64 retry, .int .i64 ref, .int .i64 born, .string topic, .string tag, .string body, .slice va vl vcp] := by rw [hW]; exact (box_set10 HZ.out _ _ _ _ _ _ _ _ _ _).alloc _
      have hbl0 : Below w.heap.size w (set10 w3 w.heap.size (.int .i64 kind) (.int .i64 queue) (.int .i64 due) (.int .i64 retry) (.int .i64 ref) (.int .i64 born) (.string topic) (.string tag) (.string body) (.slice va vl vcp)) := below_set10 HBL.out (Nat.le_refl _) _ _ _ _ _ _ _ _ _ _
      have hbl : Below w.heap.size w W := by rw [hW]; exact hbl0.alloc hbl0.size _
      have hst : Strs W w1.heap.size (.slice va vl vcp) keys := by rw [hW]; exact (strs_set10 HST.out HLT2.out _ _ _ _ _ _ _ _ _ _).below ((Below.refl _ _).alloc (Nat.le_refl _) _) (Nat.le_refl _)
      unfold set10 at hW
      rw [← hW]
      have hpm := Box.cell hbx
      exact bodyPost_ret (v := .tuple #[MsgM.val ⟨kind, queue, due, retry, ref, born, topic, tag, body, keys⟩ (.slice va vl vcp), .int .i64 k, .int .i64 0]) (by simp [results, Tryz.results11, go_sem, hpm, MsgM.val, MsgM.cells]) rfl ⟨.slice va vl vcp, rfl, strs_low hst (Nat.le_of_lt HLT2.out), HCAP.out, hbl⟩
    · rw [if_pos hx1] at hm
      simp only [Prod.mk.injEq] at hm
      obtain ⟨rfl, rfl, rfl⟩ := hm
      have hb1 : (x1 != 0) = true := by simpa using hx1
      clear hx1
      go_enter Tryz.func11, Tryz.ntmps11
      go_wp2_with fail
      rw [← HW0.out]
      refine (HL.out W0).mono ?_
      rintro e w1 ⟨rfl, hb⟩
      have HZ1 := Lib.hid (HB0.out.below hb HB0.out.lt)
      have HBL1 := Lib.hid (HL0.out.trans (hb.mono HL0.out.size))
      have HOK := Lib.hid (HO.out w1 hb)
      clear hb
      go_wp2_with fail
      refine HOK.out.mono ?_
      rintro e w3 ⟨vk, rfl, hst, hcap, hb⟩
      obtain ⟨va, vl, vcp, rfl, hle⟩ := hcap
      have HZ := Lib.hid (HZ1.out.below hb HZ1.out.lt)
      have HBL := Lib.hid (HBL1.out.trans (hb.mono HBL1.out.size))
      have hzm := HZ.out.cell
      have hzf := HZ.out.free
      have hlt := HZ.out.lt
      simp only [zc] at hzm
      clear hb hst hle
      unfold MsgM.val MsgM.cells
      obtain ⟨kind, queue, due, retry, ref, born, topic, tag, body, keys⟩ := m1
      simp only
      go_wp2_with fail
      obtain ⟨W, hW⟩ : ∃ W, W = (set10 w3 w.heap.size (.int .i64 0) (.int .i64 0) (.int .i64 0) (.int .i64 0) (.int .i64 0) (.int .i64 0) (.string ⟨#[]⟩) (.string ⟨#[]⟩) (.string ⟨#[]⟩) (.slice none 0 0)).alloc (.cells #[.int .i64 kind, .int .i64 queue, .int .i64 due, .int .i64 retry, .int .i64 ref, .int .i64 born, .string topic, .string tag, .string body, .slice va vl vcp] 24) := ⟨_, rfl⟩
      have hbx : Box W w.heap.size #[.int .i64 0, .int .i64 0, .int .i64 0, .int .i64 0, .int .i64 0, .int .i64 0, .string ⟨#[]⟩, .string ⟨#[]⟩, .string ⟨#[]⟩, .slice none 0 0] := by rw [hW]; exact (box_set10 HZ.out _ _ _ _ _ _ _ _ _ _).alloc _
      have hbl0 : Below w.heap.size w (set10 w3 w.heap.size (.int .i64 0) (.int .i64 0) (.int .i64 0) (.int .i64 0) (.int .i64 0) (.int .i64 0) (.string ⟨#[]⟩) (.string ⟨#[]⟩) (.string ⟨#[]⟩) (.slice none 0 0)) := below_set10 HBL.out (Nat.le_refl _) _ _ _ _ _ _ _ _ _ _
      have hbl : Below w.heap.size w W := by rw [hW]; exact hbl0.alloc hbl0.size _
      skip
      unfold set10 at hW
      rw [← hW]
      have hpm := Box.cell hbx
      exact bodyPost_ret (v := .tuple #[MsgM.val zeroM (.slice none 0 0), .int .i64 0, .int .i64 x1]) (by simp [results, Tryz.results11, go_sem, hpm, MsgM.val, MsgM.cells, zeroM]) rfl ⟨.slice none 0 0, rfl, ⟨none, 0, rfl, .inl rfl⟩, ⟨none, 0, 0, rfl, Nat.le_refl _⟩, hbl⟩
  · rw [if_pos hx] at hm
    simp only [Prod.mk.injEq] at hm
    obtain ⟨rfl, rfl, rfl⟩ := hm
    have hb1 : (lx != 0) = true := by simpa using hx
    clear hb0 hl0 hW0 hz0 ht htl hl hx
    go_enter Tryz.func11, Tryz.ntmps11
    go_wp2_with fail
    rw [← HW0.out]
    refine (HL.out W0).mono ?_
    rintro e w1 ⟨rfl, hb⟩
    have HZ := Lib.hid (HB0.out.below hb HB0.out.lt)
    have HBL := Lib.hid (HL0.out.trans (hb.mono HL0.out.size))
    have hzm := HZ.out.cell
    have hzf := HZ.out.free
    simp only [zc] at hzm
    clear hb
    go_wp2_with fail
    obtain ⟨W, hW⟩ : ∃ W, W = set10 w1 w.heap.size (.int .i64 0) (.int .i64 0) (.int .i64 0) (.int .i64 0) (.int .i64 0) (.int .i64 0) (.string ⟨#[]⟩) (.string ⟨#[]⟩) (.string ⟨#[]⟩) (.slice none 0 0) := ⟨_, rfl⟩
    have hbx : Box W w.heap.size #[.int .i64 0, .int .i64 0, .int .i64 0, .int .i64 0, .int .i64 0, .int .i64 0, .string ⟨#[]⟩, .string ⟨#[]⟩, .string ⟨#[]⟩, .slice none 0 0] := by rw [hW]; exact box_set10 HZ.out _ _ _ _ _ _ _ _ _ _
    have hbl : Below w.heap.size w W := by rw [hW]; exact below_set10 HBL.out (Nat.le_refl _) _ _ _ _ _ _ _ _ _ _
    skip
    unfold set10 at hW
    rw [← hW]
    have hpm := Box.cell hbx
    exact bodyPost_ret (v := .tuple #[MsgM.val zeroM (.slice none 0 0), .int .i64 0, .int .i64 lx]) (by simp [results, Tryz.results11, go_sem, hpm, MsgM.val, MsgM.cells, zeroM]) rfl ⟨.slice none 0 0, rfl, ⟨none, 0, rfl, .inl rfl⟩, ⟨none, 0, 0, rfl, Nat.le_refl _⟩, hbl⟩
end Go.Proofs.YtelpkniockhjgaaGreat
