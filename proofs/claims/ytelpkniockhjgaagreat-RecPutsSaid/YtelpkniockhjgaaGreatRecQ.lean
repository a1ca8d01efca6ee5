/-
  Put.
-/
import Derived.Test.YtelpkniockhjgaaGreatRecP
namespace Go.Proofs.YtelpkniockhjgaaGreat
open Go.RowKit Go.Deep
set_option linter.unusedVariables false
set_option linter.unusedSimpArgs false

theorem put_none (m : MsgM) (vk : Value) (w : World) : Calls Tryz.prog 10 #[.pointer none, m.val vk] w fun e w' => e = .returned (.tuple #[.string ⟨#[]⟩, .int .i64 1]) ∧ Below w.heap.size w w' := by
  unfold MsgM.val MsgM.cells
  go_enter Tryz.func10, Tryz.ntmps10
  go_wp2_with fail
  go_ret2
  exact ⟨rfl, (Below.refl _ _).alloc (Nat.le_refl _) _⟩
theorem fill_body {m : MsgM} (h : rightB m = true) (hk : m.kind = 0) : m.body.size ≤ 1024 ∧ m.body = nots m.body.size ∧ bareB m = true ∧ m.ref = 0 ∧ m.born = 0 := by
  unfold rightB restB at h
  rw [if_pos hk] at h
  simp only [Bool.and_eq_true, decide_eq_true_eq] at h
  obtain ⟨_, h1, h2, h3, h4⟩ := h
  unfold notsB at h4
  have h2 := allIn_iff.1 h2
  have a := h2 m.ref (by simp)
  have b := h2 m.born (by simp)
  exact ⟨h3, of_decide_eq_true h4, h1, by omega, by omega⟩
set_option maxHeartbeats 4000000 in
set_option maxRecDepth 100000 in
theorem put_bad (m : MsgM) (vk : Value) (t : Nat) (w : World) (hk : Strs w 0 vk m.keys) (hcap : CapOk vk) (hs : Sound m) (ht : Cr.Tab w t) (hz : rightB m = false) :
    Calls Tryz.prog 10 #[.pointer (some ⟨t, 0, none⟩), m.val vk] w (PutTo m w) := by
  unfold PutTo
  have htl : t < w.heap.size := ht.lt
  have HR : Hid (∀ W, Below w.heap.size w W → Calls Tryz.prog 8 #[m.val vk] W fun e w' => e = .returned (.bool false) ∧ Below W.heap.size W w') := Lib.hid fun W hb => right_any m vk false W (hk.below hb (Nat.le_refl _)) hcap hs hz
  have hp : putO m = none := by unfold putO; rw [if_neg (by rw [hz]; simp)]
  rw [hp]
  clear hk hcap hs ht hz hp
  unfold MsgM.val MsgM.cells at *
  go_enter Tryz.func10, Tryz.ntmps10
  go_wp2_with fail
  refine (HR.out _ ((Below.refl w.heap.size w).alloc (Nat.le_refl _) _)).mono ?_
  rintro e w1 ⟨rfl, hb⟩
  have HA1 := Lib.hid hb
  clear hb
  go_wp2_with fail
  go_ret2
  exact ⟨rfl, ((Below.refl w.heap.size w).alloc (Nat.le_refl _) _).trans (HA1.out.mono (by simp))⟩
set_option maxHeartbeats 4000000 in
set_option maxRecDepth 100000 in
theorem put_fill (m : MsgM) (vk : Value) (t : Nat) (w : World) (hk : Strs w 0 vk m.keys) (hcap : CapOk vk) (hs : Sound m) (ht : Cr.Tab w t) (hz : rightB m = true) (hk0 : m.kind = 0) (h3 : 3 ≤ m.body.size) :
    Calls Tryz.prog 10 #[.pointer (some ⟨t, 0, none⟩), m.val vk] w (PutTo m w) := by
  unfold PutTo
  have htl : t < w.heap.size := ht.lt
  have HR : Hid (∀ W, Below w.heap.size w W → Calls Tryz.prog 8 #[m.val vk] W fun e w' => e = .returned (.bool true) ∧ Below W.heap.size W w') := Lib.hid fun W hb => right_any m vk true W (hk.below hb (Nat.le_refl _)) hcap hs hz
  have f1 := (fill_body hz hk0).1
  obtain ⟨nb, hnb⟩ : ∃ nb : Nat, nb = m.body.size := ⟨_, rfl⟩
  have hkb : (m.kind != 0) = false := by rw [hk0]; rfl
  have hp : putO m = some (fillB m.body.size) := by unfold putO; rw [if_pos hz, if_neg (by omega), if_pos h3]
  rw [hp]
  obtain ⟨s, hse⟩ : ∃ s : ByteArray, s = ⟨(fillB m.body.size).toArray⟩ := ⟨_, rfl⟩
  show Calls _ _ _ _ (fun e w' => e = .returned (.tuple #[.string ⟨(fillB m.body.size).toArray⟩, .int .i64 0]) ∧ _)
  rw [← hse]
  have HF := Lib.hid fun W => fill_yes m.body.size s W h3 f1 hse
  clear hk hcap hs ht hz hp hse hk0 hnb
  unfold MsgM.val MsgM.cells at *
  go_enter Tryz.func10, Tryz.ntmps10
  go_wp2_with fail
  refine (HR.out _ ((Below.refl w.heap.size w).alloc (Nat.le_refl _) _)).mono ?_
  rintro e w1 ⟨rfl, hb⟩
  have hz1 := hb.size
  have hc1 := (bcell hb).1
  simp only [World.size_alloc] at hz1 hc1
  have HA1 := Lib.hid hb
  clear hb
  go_wp2_with fail
  refine (HF.out w1).mono ?_
  rintro e w2 ⟨rfl, hb⟩
  have HA2 := Lib.hid (HA1.out.trans (hb.mono (by simp only [World.size_alloc]; omega)))
  clear hb
  go_wp2_with fail
  go_ret2
  exact ⟨rfl, ((Below.refl w.heap.size w).alloc (Nat.le_refl _) _).trans (HA2.out.mono (by simp))⟩
set_option maxHeartbeats 4000000 in
set_option maxRecDepth 100000 in
theorem put_few (m : MsgM) (vk : Value) (t : Nat) (w : World) (hk : Strs w 0 vk m.keys) (hcap : CapOk vk) (hs : Sound m) (ht : Cr.Tab w t) (hz : rightB m = true) (hk0 : m.kind = 0) (h3 : ¬ 3 ≤ m.body.size) :
    Calls Tryz.prog 10 #[.pointer (some ⟨t, 0, none⟩), m.val vk] w (PutTo m w) := by
  unfold PutTo
  have htl : t < w.heap.size := ht.lt
  have HR : Hid (∀ W, Below w.heap.size w W → Calls Tryz.prog 8 #[m.val vk] W fun e w' => e = .returned (.bool true) ∧ Below W.heap.size W w') := Lib.hid fun W hb => right_any m vk true W (hk.below hb (Nat.le_refl _)) hcap hs hz
  have f1 := (fill_body hz hk0).1
  obtain ⟨nb, hnb⟩ : ∃ nb : Nat, nb = m.body.size := ⟨_, rfl⟩
  have hkb : (m.kind != 0) = false := by rw [hk0]; rfl
  have hp : putO m = none := by unfold putO; rw [if_pos hz, if_neg (by omega), if_neg h3]
  rw [hp]
  have HF := Lib.hid fun W => fill_no (m.body.size : Int) W (.inl (by omega))
  clear hk hcap hs ht hz hp hk0 hnb
  unfold MsgM.val MsgM.cells at *
  go_enter Tryz.func10, Tryz.ntmps10
  go_wp2_with fail
  refine (HR.out _ ((Below.refl w.heap.size w).alloc (Nat.le_refl _) _)).mono ?_
  rintro e w1 ⟨rfl, hb⟩
  have hz1 := hb.size
  have hc1 := (bcell hb).1
  simp only [World.size_alloc] at hz1 hc1
  have HA1 := Lib.hid hb
  clear hb
  go_wp2_with fail
  refine (HF.out w1).mono ?_
  rintro e w2 ⟨rfl, rfl⟩
  go_wp2_with fail
  go_ret2
  exact ⟨rfl, ((Below.refl w.heap.size w).alloc (Nat.le_refl _) _).trans (HA1.out.mono (by simp))⟩
set_option maxHeartbeats 4000000 in
set_option maxRecDepth 100000 in
theorem put_rec (m : MsgM) (vk : Value) (t : Nat) (w : World) (hk : Strs w 0 vk m.keys) (hcap : CapOk vk) (hs : Sound m) (ht : Cr.Tab w t) (hz : rightB m = true) (hk0 : ¬ m.kind = 0) :
    Calls Tryz.prog 10 #[.pointer (some ⟨t, 0, none⟩), m.val vk] w (PutTo m w) := by
  unfold PutTo
  have htl : t < w.heap.size := ht.lt
  have HR : Hid (∀ W, Below w.heap.size w W → Calls Tryz.prog 8 #[m.val vk] W fun e w' => e = .returned (.bool true) ∧ Below W.heap.size W w') := Lib.hid fun W hb => right_any m vk true W (hk.below hb (Nat.le_refl _)) hcap hs hz
  have hbd := right_bd hz hk0
  have hp : putO m = some (recB m) := by unfold putO; rw [if_pos hz, if_pos hk0]
  rw [hp]
  obtain ⟨s, hse⟩ : ∃ s : ByteArray, s = ⟨(recB m).toArray⟩ := ⟨_, rfl⟩
  obtain ⟨pk, hpk⟩ : ∃ s : ByteArray, s = ⟨(packB m).toArray⟩ := ⟨_, rfl⟩
  obtain ⟨sl, hsl⟩ : ∃ s : ByteArray, s = ⟨(Cr.sealB pk).toArray⟩ := ⟨_, rfl⟩
  have hpz : pk.size ≤ 320 := by rw [hpk, Oc.size_of]; exact packB_le hbd
  have hslz : sl.size ≤ 60000 := by rw [hsl, Oc.size_of, Cr.sealB_length]; omega
  show Calls _ _ _ _ (fun e w' => e = .returned (.tuple #[.string ⟨(recB m).toArray⟩, .int .i64 0]) ∧ _)
  rw [← hse]
  have hkb : (m.kind != 0) = true := by simpa using hk0
  have HP : Hid (∀ W, Below w.heap.size w W → Calls Tryz.prog 30 #[m.val vk] W fun e w' => e = .returned (.string pk) ∧ Below W.heap.size W w') := Lib.hid fun W hb => packed_any m vk pk W (hk.below hb (Nat.le_refl _)) hbd hpk
  have HS : Hid (∀ W, Below w.heap.size w W → Calls Tryz.prog 29 #[.pointer (some ⟨t, 0, none⟩), .string pk] W fun e w' => e = .returned (.string sl) ∧ Below W.heap.size W w') := Lib.hid fun W hb => by
    rw [hsl]
    exact Cr.seal_any t pk W (Cr.Tab.below ht hb htl) (by omega)
  have HF := Lib.hid fun W => framed_any 165 sl s W hslz (by rw [hse, hsl]; unfold recB; rw [← hpk])
  clear hk hcap hs ht hz hp hse hpk hsl hk0 hbd
  unfold MsgM.val MsgM.cells at *
  go_enter Tryz.func10, Tryz.ntmps10
  go_wp2_with fail
  refine (HR.out _ ((Below.refl w.heap.size w).alloc (Nat.le_refl _) _)).mono ?_
  rintro e w1 ⟨rfl, hb⟩
  have hz1 := hb.size
  have hc1 := (bcell hb).1
  simp only [World.size_alloc] at hz1 hc1
  have HA1 := Lib.hid hb
  clear hb
  go_wp2_with fail
  refine (HP.out w1 (((Below.refl w.heap.size w).alloc (Nat.le_refl _) _).trans (HA1.out.mono (by simp)))).mono ?_
  rintro e w2 ⟨rfl, hb⟩
  have hz2 := hb.size
  have HA2 := Lib.hid (HA1.out.trans (hb.mono (by simp only [World.size_alloc]; omega)))
  clear hb
  go_wp2_with fail
  refine (HS.out w2 (((Below.refl w.heap.size w).alloc (Nat.le_refl _) _).trans (HA2.out.mono (by simp)))).mono ?_
  rintro e w3 ⟨rfl, hb⟩
  have hz3 := hb.size
  have HA3 := Lib.hid (HA2.out.trans (hb.mono (by simp only [World.size_alloc]; omega)))
  clear hb
  go_wp2_with fail
  refine (HF.out w3).mono ?_
  rintro e w4 ⟨rfl, hb⟩
  have HA4 := Lib.hid (HA3.out.trans (hb.mono (by simp only [World.size_alloc]; omega)))
  clear hb
  go_wp2_with fail
  go_ret2
  exact ⟨rfl, ((Below.refl w.heap.size w).alloc (Nat.le_refl _) _).trans (HA4.out.mono (by simp))⟩
theorem put_any (m : MsgM) (vk : Value) (t : Nat) (w : World) (hk : Strs w 0 vk m.keys) (hcap : CapOk vk) (hs : Sound m) (ht : Cr.Tab w t) :
    Calls Tryz.prog 10 #[.pointer (some ⟨t, 0, none⟩), m.val vk] w (PutTo m w) := by
  by_cases hz : rightB m = true
  · by_cases hk0 : m.kind = 0
    · by_cases h3 : 3 ≤ m.body.size
      · exact put_fill m vk t w hk hcap hs ht hz hk0 h3
      · exact put_few m vk t w hk hcap hs ht hz hk0 h3
    · exact put_rec m vk t w hk hcap hs ht hz hk0
  · exact put_bad m vk t w hk hcap hs ht (by simpa using hz)
end Go.Proofs.YtelpkniockhjgaaGreat
