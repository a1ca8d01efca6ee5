/-
  Get: the whole of it.
-/
import Derived.Test.YtelpkniockhjgaaGreatRecH
namespace Go.Proofs.YtelpkniockhjgaaGreat
open Go.RowKit Go.Deep
set_option linter.unusedVariables false
set_option linter.unusedSimpArgs false

set_option maxHeartbeats 4000000 in
set_option maxRecDepth 100000 in
theorem opened_fill (t : Nat) (s : ByteArray) (m : MsgM) (x : Int) (w : World) (h3 : 3 ≤ s.size) (hs : s.size ≤ 1000000) (hf : hasB s fH = true) (hm : openedS s = (m, x)) :
    Calls Tryz.prog 32 #[.pointer (some ⟨t, 0, none⟩), .string s] w (OpenTo m x w) := by
  unfold openedS at hm
  rw [if_pos hf] at hm
  obtain ⟨W0, hW0⟩ : ∃ W, W = w.alloc (.cells #[.int .i64 0, .int .i64 0, .int .i64 0, .int .i64 0, .int .i64 0, .int .i64 0, .string ⟨#[]⟩, .string ⟨#[]⟩, .string ⟨#[]⟩, .slice none 0 0] 24) := ⟨_, rfl⟩
  have hb0 : Box W0 w.heap.size zc := hW0 ▸ box_zero w
  have hl0 : Below w.heap.size w W0 := hW0 ▸ (Below.refl _ _).alloc (Nat.le_refl _) _
  have hz0 : w.heap.size + 1 = W0.heap.size := by rw [hW0, World.size_alloc]
  have HF := Lib.hid fun W => isF_any s true W (by unfold maxLen; omega) hf
  have HC := Lib.hid (filler_any s m x W0 h3 hs hm)
  have HB0 := Lib.hid hb0
  have HL0 := Lib.hid hl0
  have HW0 := Lib.hid hW0
  have HZ0 := Lib.hid hz0
  clear hb0 hl0 hW0 hm hf h3 hs hz0
  go_enter Tryz.func32, Tryz.ntmps32
  go_wp2_with fail
  refine (HF.out _).mono ?_
  rintro e w1 ⟨rfl, rfl⟩
  go_wp2_with fail
  rw [← HW0.out]
  refine HC.out.mono ?_
  rintro e w2 ⟨vk, rfl, hst, hcap, hb⟩
  obtain ⟨va, vl, vcp, rfl, hle⟩ := hcap
  have hcap : CapOk (.slice va vl vcp) := ⟨va, vl, vcp, rfl, hle⟩
  clear hle
  have HZ := Lib.hid (HB0.out.below hb HB0.out.lt)
  have HBL := Lib.hid (HL0.out.trans (hb.mono HL0.out.size))
  have HST := Lib.hid hst
  have HCAP := Lib.hid hcap
  have hzm := HZ.out.cell
  have hzf := HZ.out.free
  simp only [zc] at hzm
  clear hb hst hcap
  unfold MsgM.val MsgM.cells
  obtain ⟨kind, queue, due, retry, ref, born, topic, tag, body, keys⟩ := m
  simp only
  go_wp2_with fail
  obtain ⟨W, hW⟩ : ∃ W, W = set10 w2 w.heap.size (.int .i64 kind) (.int .i64 queue) (.int .i64 due) (.int .i64 retry) (.int .i64 ref) (.int .i64 born) (.string topic) (.string tag) (.string body) (.slice va vl vcp) := ⟨_, rfl⟩
  have hbx : Box W w.heap.size #[.int .i64 kind, .int .i64 queue, .int .i64 due, .int .i64 retry, .int .i64 ref, .int .i64 born, .string topic, .string tag, .string body, .slice va vl vcp] := by rw [hW]; exact box_set10 HZ.out _ _ _ _ _ _ _ _ _ _
  have hbl : Below w.heap.size w W := by rw [hW]; exact below_set10 HBL.out (Nat.le_refl _) _ _ _ _ _ _ _ _ _ _
  have hst : Strs W W0.heap.size (.slice va vl vcp) keys := by rw [hW]; exact strs_set10 HST.out (by have := HZ0.out; omega) _ _ _ _ _ _ _ _ _ _
  unfold set10 at hW
  rw [← hW]
  have hpm := Box.cell hbx
  exact bodyPost_ret (v := .tuple #[MsgM.val ⟨kind, queue, due, retry, ref, born, topic, tag, body, keys⟩ (.slice va vl vcp), .int .i64 x]) (by simp [results, Tryz.results32, go_sem, hpm, MsgM.val, MsgM.cells]) rfl ⟨.slice va vl vcp, rfl, strs_low hst (by have := HZ0.out; omega), HCAP.out, hbl⟩
set_option maxHeartbeats 4000000 in
set_option maxRecDepth 100000 in
theorem opened_rec (t : Nat) (s : ByteArray) (m : MsgM) (x : Int) (w : World) (ht : Cr.Tab w t) (h3 : 3 ≤ s.size) (hs : s.size ≤ 1000000) (hf : hasB s fH = false) (hm : openedS s = (m, x)) :
    Calls Tryz.prog 32 #[.pointer (some ⟨t, 0, none⟩), .string s] w (OpenTo m x w) := by
  unfold openedS at hm
  rw [if_neg (by rw [hf]; decide)] at hm
  have htl : t < w.heap.size := ht.lt
  obtain ⟨W0, hW0⟩ : ∃ W, W = w.alloc (.cells #[.int .i64 0, .int .i64 0, .int .i64 0, .int .i64 0, .int .i64 0, .int .i64 0, .string ⟨#[]⟩, .string ⟨#[]⟩, .string ⟨#[]⟩, .slice none 0 0] 24) := ⟨_, rfl⟩
  have hb0 : Box W0 w.heap.size zc := hW0 ▸ box_zero w
  have hl0 : Below w.heap.size w W0 := hW0 ▸ (Below.refl _ _).alloc (Nat.le_refl _) _
  have hz0 : w.heap.size + 1 = W0.heap.size := by rw [hW0, World.size_alloc]
  have HF := Lib.hid fun W => isF_any s false W (by unfold maxLen; omega) hf
  obtain ⟨r, hr⟩ : ∃ r, r = s.extract 3 s.size := ⟨_, rfl⟩
  have hrs : r.size ≤ 1000000 := by rw [hr, ByteArray.size_extract]; omega
  rw [← hr] at hm
  obtain ⟨zo, hzo⟩ : ∃ z, Cr.openB r = z := ⟨_, rfl⟩
  obtain ⟨p, hp⟩ : ∃ p, Cr.openS r = p := ⟨_, rfl⟩
  have hps : p.size ≤ 1000000 := by
    rw [← hp]
    unfold Cr.openS
    split
    · rw [ByteArray.size_extract]; omega
    · exact Nat.zero_le _
  rw [hzo, hp] at hm
  have HO : Hid (Calls Tryz.prog 58 #[.pointer (some ⟨t, 0, none⟩), .string (s.extract 3 s.size)] W0 fun e w' => e = .returned (.tuple #[.string p, .bool zo]) ∧ Below W0.heap.size W0 w') := Lib.hid (by
    rw [← hr, ← hzo, ← hp]
    exact Cr.open_any t r W0 (Cr.Tab.below ht hl0 htl) hrs)
  have HU := Lib.hid fun W => unp_any p W hps
  have h3I : (3 : Int) ≤ s.size := by omega
  have HB0 := Lib.hid hb0
  have HL0 := Lib.hid hl0
  have HW0 := Lib.hid hW0
  have HZ0 := Lib.hid hz0
  clear hb0 hl0 hW0 hf h3 hs hz0 ht htl hr hrs hzo hp hps
  cases zo
  · rw [if_neg (by decide)] at hm
    simp only [Prod.mk.injEq] at hm
    obtain ⟨rfl, rfl⟩ := hm
    go_enter Tryz.func32, Tryz.ntmps32
    go_wp2_with fail
    refine (HF.out _).mono ?_
    rintro e w1 ⟨rfl, rfl⟩
    go_wp2_with fail
    rw [← HW0.out]
    refine HO.out.mono ?_
    rintro e w2 ⟨rfl, hb⟩
    have HZ := Lib.hid (HB0.out.below hb HB0.out.lt)
    have HBL := Lib.hid (HL0.out.trans (hb.mono HL0.out.size))
    have hzm := HZ.out.cell
    have hzf := HZ.out.free
    simp only [zc] at hzm
    clear hb
    go_wp2_with fail
    obtain ⟨W, hW⟩ : ∃ W, W = set10 w2 w.heap.size (.int .i64 0) (.int .i64 0) (.int .i64 0) (.int .i64 0) (.int .i64 0) (.int .i64 0) (.string ⟨#[]⟩) (.string ⟨#[]⟩) (.string ⟨#[]⟩) (.slice none 0 0) := ⟨_, rfl⟩
    have hbx : Box W w.heap.size #[.int .i64 0, .int .i64 0, .int .i64 0, .int .i64 0, .int .i64 0, .int .i64 0, .string ⟨#[]⟩, .string ⟨#[]⟩, .string ⟨#[]⟩, .slice none 0 0] := by rw [hW]; exact box_set10 HZ.out _ _ _ _ _ _ _ _ _ _
    have hbl : Below w.heap.size w W := by rw [hW]; exact below_set10 HBL.out (Nat.le_refl _) _ _ _ _ _ _ _ _ _ _
    skip
    unfold set10 at hW
    rw [← hW]
    have hpm := Box.cell hbx
    exact bodyPost_ret (v := .tuple #[MsgM.val zeroM (.slice none 0 0), .int .i64 5]) (by simp [results, Tryz.results32, go_sem, hpm, MsgM.val, MsgM.cells, zeroM]) rfl ⟨.slice none 0 0, rfl, ⟨none, 0, rfl, .inl rfl⟩, ⟨none, 0, 0, rfl, Nat.le_refl _⟩, hbl⟩
  · rw [if_pos rfl] at hm
    obtain ⟨zu, hzu⟩ : ∃ z, unpB p = z := ⟨_, rfl⟩
    rw [hzu] at hm
    have HZU := Lib.hid hzu
    clear hzu
    cases zu
    · rw [if_neg (by decide)] at hm
      simp only [Prod.mk.injEq] at hm
      obtain ⟨rfl, rfl⟩ := hm
      go_enter Tryz.func32, Tryz.ntmps32
      go_wp2_with fail
      refine (HF.out _).mono ?_
      rintro e w1 ⟨rfl, rfl⟩
      go_wp2_with fail
      rw [← HW0.out]
      refine HO.out.mono ?_
      rintro e w2 ⟨rfl, hb⟩
      have HZ2 := Lib.hid (HB0.out.below hb HB0.out.lt)
      have HBL2 := Lib.hid (HL0.out.trans (hb.mono HL0.out.size))
      clear hb
      go_wp2_with fail
      refine (HU.out w2).mono ?_
      rintro e w3 ⟨m3, vk, rfl, hst, hcap, hm3, hb⟩
      obtain ⟨va, vl, vcp, rfl, hle⟩ := hcap
      have hcap : CapOk (.slice va vl vcp) := ⟨va, vl, vcp, rfl, hle⟩
      clear hle
      rw [HZU.out, if_neg (by decide)] at hm3
      subst hm3
      rw [HZU.out]
      have HZ := Lib.hid (HZ2.out.below hb HZ2.out.lt)
      have HBL := Lib.hid (HBL2.out.trans (hb.mono HBL2.out.size))
      have hzm := HZ.out.cell
      have hzf := HZ.out.free
      have hlt := HZ.out.lt
      simp only [zc] at hzm
      clear hb hst hcap
      unfold MsgM.val MsgM.cells zeroM
      simp only
      go_wp2_with fail
      obtain ⟨W, hW⟩ : ∃ W, W = (set10 w3 w.heap.size (.int .i64 0) (.int .i64 0) (.int .i64 0) (.int .i64 0) (.int .i64 0) (.int .i64 0) (.string ⟨#[]⟩) (.string ⟨#[]⟩) (.string ⟨#[]⟩) (.slice none 0 0)).alloc (.cells #[.int .i64 0, .int .i64 0, .int .i64 0, .int .i64 0, .int .i64 0, .int .i64 0, .string ⟨#[]⟩, .string ⟨#[]⟩, .string ⟨#[]⟩, .slice va vl vcp] 24) := ⟨_, rfl⟩
      have hbx : Box W w.heap.size #[.int .i64 0, .int .i64 0, .int .i64 0, .int .i64 0, .int .i64 0, .int .i64 0, .string ⟨#[]⟩, .string ⟨#[]⟩, .string ⟨#[]⟩, .slice none 0 0] := by rw [hW]; exact (box_set10 HZ.out _ _ _ _ _ _ _ _ _ _).alloc _
      have hbl0 : Below w.heap.size w (set10 w3 w.heap.size (.int .i64 0) (.int .i64 0) (.int .i64 0) (.int .i64 0) (.int .i64 0) (.int .i64 0) (.string ⟨#[]⟩) (.string ⟨#[]⟩) (.string ⟨#[]⟩) (.slice none 0 0)) := below_set10 HBL.out (Nat.le_refl _) _ _ _ _ _ _ _ _ _ _
      have hbl : Below w.heap.size w W := by rw [hW]; exact hbl0.alloc hbl0.size _
      skip
      unfold set10 at hW
      rw [← hW]
      have hpm := Box.cell hbx
      exact bodyPost_ret (v := .tuple #[MsgM.val zeroM (.slice none 0 0), .int .i64 4]) (by simp [results, Tryz.results32, go_sem, hpm, MsgM.val, MsgM.cells, zeroM]) rfl ⟨.slice none 0 0, rfl, ⟨none, 0, rfl, .inl rfl⟩, ⟨none, 0, 0, rfl, Nat.le_refl _⟩, hbl⟩
    · rw [if_pos rfl] at hm
      simp only [Prod.mk.injEq] at hm
      obtain ⟨hm1, rfl⟩ := hm
      have HM := Lib.hid hm1
      clear hm1
      go_enter Tryz.func32, Tryz.ntmps32
      go_wp2_with fail
      refine (HF.out _).mono ?_
      rintro e w1 ⟨rfl, rfl⟩
      go_wp2_with fail
      rw [← HW0.out]
      refine HO.out.mono ?_
      rintro e w2 ⟨rfl, hb⟩
      have HZ2 := Lib.hid (HB0.out.below hb HB0.out.lt)
      have HBL2 := Lib.hid (HL0.out.trans (hb.mono HL0.out.size))
      clear hb
      go_wp2_with fail
      refine (HU.out w2).mono ?_
      rintro e w3 ⟨m3, vk, rfl, hst, hcap, hm3, hb⟩
      obtain ⟨va, vl, vcp, rfl, hle⟩ := hcap
      have hcap : CapOk (.slice va vl vcp) := ⟨va, vl, vcp, rfl, hle⟩
      clear hle
      rw [HZU.out, if_pos rfl, HM.out] at hm3
      subst hm3
      rw [HZU.out]
      have HZ := Lib.hid (HZ2.out.below hb HZ2.out.lt)
      have HBL := Lib.hid (HBL2.out.trans (hb.mono HBL2.out.size))
      have HST := Lib.hid hst
      have HCAP := Lib.hid hcap
      have HLT2 := Lib.hid HZ2.out.lt
      have hzm := HZ.out.cell
      have hzf := HZ.out.free
      have hlt := HZ.out.lt
      simp only [zc] at hzm
      clear hb hst hcap
      obtain ⟨kind, queue, due, retry, ref, born, topic, tag, body, keys⟩ := m3
      unfold MsgM.val MsgM.cells
      simp only
      go_wp2_with fail
      obtain ⟨W, hW⟩ : ∃ W, W = (set10 w3 w.heap.size (.int .i64 kind) (.int .i64 queue) (.int .i64 due) (.int .i64 retry) (.int .i64 ref) (.int .i64 born) (.string topic) (.string tag) (.string body) (.slice va vl vcp)).alloc (.cells #[.int .i64 kind, .int .i64 queue, .int .i64 due, .int .i64 retry, .int .i64 ref, .int .i64 born, .string topic, .string tag, .string body, .slice va vl vcp] 24) := ⟨_, rfl⟩
      have hbx : Box W w.heap.size #[.int .i64 kind, .int .i64 queue, .int .i64 due, .int .i64 retry, .int .i64 ref, .int .i64 born, .string topic, .string tag, .string body, .slice va vl vcp] := by rw [hW]; exact (box_set10 HZ.out _ _ _ _ _ _ _ _ _ _).alloc _
      have hbl0 : Below w.heap.size w (set10 w3 w.heap.size (.int .i64 kind) (.int .i64 queue) (.int .i64 due) (.int .i64 retry) (.int .i64 ref) (.int .i64 born) (.string topic) (.string tag) (.string body) (.slice va vl vcp)) := below_set10 HBL.out (Nat.le_refl _) _ _ _ _ _ _ _ _ _ _
      have hbl : Below w.heap.size w W := by rw [hW]; exact hbl0.alloc hbl0.size _
      have hst : Strs W w2.heap.size (.slice va vl vcp) keys := by rw [hW]; exact (strs_set10 HST.out HLT2.out _ _ _ _ _ _ _ _ _ _).below ((Below.refl _ _).alloc (Nat.le_refl _) _) (Nat.le_refl _)
      unfold set10 at hW
      rw [← hW]
      have hpm := Box.cell hbx
      exact bodyPost_ret (v := .tuple #[MsgM.val ⟨kind, queue, due, retry, ref, born, topic, tag, body, keys⟩ (.slice va vl vcp), .int .i64 0]) (by simp [results, Tryz.results32, go_sem, hpm, MsgM.val, MsgM.cells]) rfl ⟨.slice va vl vcp, rfl, strs_low hst (Nat.le_of_lt HLT2.out), HCAP.out, hbl⟩
end Go.Proofs.YtelpkniockhjgaaGreat
