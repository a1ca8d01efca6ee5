/-
  All of the closure that asks for unlike ones.
-/
import Derived.Test.YtdhpemkmfkcadaaDoorTagA
namespace Go.Proofs.YtdhpemkmfkcadaaDoor
open Go.RowKit Go.ChangeMaps Go.WideShapes Go.Deep
set_option linter.unusedVariables false
set_option linter.unusedSimpArgs false

def IsUnl (B : Nat) (v : Value) (w : World) : Prop := ∃ b m, v = .func (.func 31) #[] #[.pointer (some ⟨b, 0, none⟩)] ∧ Seen w b m [] ∧ B ≤ m

theorem unlike_any (B : Nat) (w : World) (hB : B ≤ w.heap.size) : Calls Tryd.prog 19 #[] w fun e w' => ∃ v, e = .returned v ∧ IsUnl B v w' ∧ Below w.heap.size w w' := by
  have hmm := @run_makeMap Tryd.prog
  have hmf : ∀ W b, (Instr.makeFunc (.func 31) #[] #[.pointer (some ⟨b, 0, none⟩)]).run Tryd.prog W = .ok (.func (.func 31) #[] #[.pointer (some ⟨b, 0, none⟩)]) W := fun W b => by rfl
  go_enter Tryd.func19, Tryd.ntmps19
  go_wp2_with fail
  go_ret
  refine ⟨_, rfl, ⟨_, _, rfl, ⟨?_, Nat.lt_succ_self _, ?_⟩, hB⟩, ((Below.refl _ _).alloc (Nat.le_refl _) _).alloc (by simp [go_sem]) _⟩
  · simp [go_sem]
  · exact (MapK.made (K := strKey (P := Tryd.prog) Tryd.underlying9) (E := unitEl) w).heap ((Go.MapKept.heap_alloc _ _).2 _ (by simp [go_sem]))

theorem getD_at {ts : List ByteArray} {k : Nat} (hk : k < ts.length) : ts.getD k ⟨#[]⟩ = ts[k] := by
  rw [List.getD_eq_getElem?_getD, List.getElem?_eq_getElem hk]; rfl
theorem nodup_take {ts : List ByteArray} (h : ∀ k, k < ts.length → seenB (ts.take k) (ts.getD k ⟨#[]⟩) = false) : ts.Nodup := by
  unfold List.Nodup
  rw [List.pairwise_iff_getElem]
  intro i j hi hj hij he
  have h1 := h j hj
  rw [← Bool.not_eq_true, seenB_iff, getD_at hj, ← he] at h1
  apply h1
  rw [List.mem_take_iff_getElem]
  exact ⟨i, by omega, rfl⟩
theorem not_nodup_take {ts : List ByteArray} {k : Nat} (hk : k < ts.length) (h : seenB (ts.take k) (ts.getD k ⟨#[]⟩) = true) : ¬ ts.Nodup := by
  rw [seenB_iff, List.mem_take_iff_getElem] at h
  obtain ⟨i, hi, he⟩ := h
  intro hn
  unfold List.Nodup at hn
  rw [List.pairwise_iff_getElem] at hn
  refine hn i k (by omega) hk (by omega) ?_
  rw [he, getD_at hk]

set_option maxRecDepth 100000 in
theorem all_unlike (B : Nat) (f v : Value) (ts : List ByteArray) (x : Bool) (w : World) (hf : IsUnl B f w) (hB : B ≤ w.heap.size) (hv : Strs w 0 v ts) (hvB : Strs w 0 v ts → ∀ w', Below B w w' → Strs w' 0 v ts) (hl : ts.length < maxLen) (hs : ∀ t ∈ ts, t.size ≤ maxLen) (hx : decide ts.Nodup = x) :
    Calls Tryd.prog 17 #[f, v] w fun e w' => e = .returned (.bool x) ∧ Below B w w' := by
  obtain ⟨b, m, rfl, hseen, hm⟩ := hf
  have qn : ∀ w, (binOp .eql 29 (.func (.func 31) #[] #[.pointer (some ⟨b, 0, none⟩)]) .nilFunc).run Tryd.prog w = .ok (.bool false) w := fun _ => by rfl
  have hml := hl
  unfold maxLen at hl
  have HV := Lib.hid hv
  have HX := Lib.hid hx
  have HSZ := Lib.hid hs
  have HVB := Lib.hid (hvB hv)
  have HML := Lib.hid hml
  obtain ⟨a, cap, rfl⟩ := hv.form
  clear hv hx hs hvB hml
  go_enter_defers Tryd.func17, Tryd.ntmps17
  go_wp2_with fail
  go_loopw [9] (fun i wr => ∃ k : Nat, k ≤ ts.length ∧ i = .int .i64 k ∧ Below B w wr ∧ Seen wr b m (ts.take k) ∧ ∀ j, j < k → seenB (ts.take j) (ts.getD j ⟨#[]⟩) = false) (fun i _ => ts.length - (intOf i).toNat)
  case atStart => exact ⟨0, Nat.zero_le _, rfl, Below.refl _ _, hseen, fun j hj => by omega⟩
  case round =>
    obtain ⟨k, hk, rfl, hb, hse, hok⟩ := hrel
    have HB := Lib.hid hb
    have HOK := Lib.hid hok
    have HSE := Lib.hid hse
    clear hb hok hse hseen
    by_cases hlt : k < ts.length
    · obtain ⟨b0, o0, rfl, hck⟩ := (HVB.out _ HB.out).cellAt hlt
      obtain ⟨s, hse⟩ : ∃ s, s = ts.getD k ⟨#[]⟩ := ⟨_, rfl⟩
      have hin : s ∈ ts := by rw [hse]; simp [List.getD_eq_getElem?_getD, List.getElem?_eq_getElem hlt]
      have hsz : s.size ≤ maxLen := HSZ.out s hin
      have htk := take_snoc' ts hlt
      rw [← hse] at hck htk
      have HSE2 := Lib.hid hse
      have HTK := Lib.hid htk
      have hll : (ts.take k).length < maxLen := by rw [List.length_take]; have := HML.out; omega
      have HLL := Lib.hid hll
      clear hse hin htk hll
      obtain ⟨y, hy⟩ : ∃ y, seenB (ts.take k) s = y := ⟨_, rfl⟩
      have HY := Lib.hid hy
      clear hy
      go_wp2_with fail
      refine (sees_any B b m (ts.take k) s _ y HSE.out hsz HLL.out hm HY.out).mono ?_
      rintro e w1 ⟨rfl, hs1, hb⟩
      have HB2 := Lib.hid (HB.out.trans hb)
      have HS1 := Lib.hid hs1
      clear hb hs1
      cases y
      · go_wp2_with fail
        refine ⟨⟨k + 1, by omega, by go_num, HB2.out, ?_, fun j hj => ?_⟩, by simp [intOf]; omega⟩
        · have := HS1.out
          rw [if_neg (by decide)] at this
          rw [HTK.out]
          exact this
        · by_cases e : j = k
          · subst e; rw [← HSE2.out]; exact HY.out
          · exact HOK.out j (by omega)
      · have hz : false = x := by
          rw [← HX.out]
          exact (decide_eq_false (not_nodup_take hlt (by rw [← HSE2.out]; exact HY.out))).symm
        subst hz
        go_wp2_with fail
        refine leaves_cons (f := 28) (args := #[]) (by simp) (by simp [go_sem]) ?_
        refine (rec_idle _).mono ?_
        rintro e u' w'' ⟨rfl, rfl, rfl⟩
        exact ⟨_, results_tmp rfl _ _ _, rfl, HB2.out⟩
    · have hz : true = x := by
        rw [← HX.out]
        exact (decide_eq_true (nodup_take fun j hj => HOK.out j (by omega))).symm
      subst hz
      go_wp2_with fail
      refine leaves_cons (f := 28) (args := #[]) (by simp) (by simp [go_sem]) ?_
      refine (rec_idle _).mono ?_
      rintro e u' w'' ⟨rfl, rfl, rfl⟩
      exact ⟨_, results_tmp rfl _ _ _, rfl, HB.out⟩
end Go.Proofs.YtdhpemkmfkcadaaDoor
