/- A part. -/
import Derived.Test.YtdnhgodfmjapmaaGreatDoorDno12
set_option linter.unusedVariables false
set_option linter.unusedSimpArgs false
namespace Go.Proofs.YtdnhgodfmjapmaaGreatDoor
open Go.RowKit Go.Deep
theorem rec_idle (w : World) : CallsD Tryz.prog 257 #[] .returning w fun e u' w' => e = .returned (.tuple #[]) ∧ u' = .returning ∧ w' = w := by
  refine callsD_of_wpS Tryz.func257 rfl fun c₀ cs hu => ?_
  apply wpS_region
  cases c₀
  simp_all [wpOpsS, go_sem, recoverD, Tryz.ntmps257, bodyPostS, results, Tryz.results257]
set_option maxRecDepth 100000 in
theorem all_key (v : Value) (ts : List ByteArray) (x : Bool) (w : World) (hv : Strs w 0 v ts) (hl : ts.length ≤ maxLen) (hs : ∀ t ∈ ts, t.size ≤ maxLen) (hx : ts.all keyB = x) :
    Calls Tryz.prog 245 #[.func (.func 157) #[] #[], v] w fun e w' => e = .returned (.bool x) ∧ Below w.heap.size w w' := by
  have qn : ∀ w, (binOp .eql 192 (.func (.func 157) #[] #[]) .nilFunc).run Tryz.prog w = .ok (.bool false) w := fun _ => by kernel_rfl
  unfold maxLen at hl
  have HV := Lib.hid hv
  have HX := Lib.hid hx
  have HSZ := Lib.hid hs
  obtain ⟨a, cap, rfl⟩ := hv.form
  clear hv hx hs
  go_enter_defers Tryz.func245, Tryz.ntmps245
  go_wp2_with fail
  go_loopw [9] (fun i wr => ∃ k : Nat, k ≤ ts.length ∧ i = .int .i64 k ∧ Below w.heap.size w wr ∧ ∀ j, j < k → keyB (ts.getD j ⟨#[]⟩) = true) (fun i _ => ts.length - (intOf i).toNat)
  case atStart => exact ⟨0, Nat.zero_le _, rfl, Below.refl _ _, fun j hj => by omega⟩
  case round =>
    obtain ⟨k, hk, rfl, hb, hok⟩ := hrel
    have HB := Lib.hid hb
    have HOK := Lib.hid hok
    clear hb hok
    by_cases hlt : k < ts.length
    · obtain ⟨b, o, rfl, hck⟩ := (HV.out.below HB.out (Nat.le_refl _)).cellAt hlt
      obtain ⟨s, hse⟩ : ∃ s, s = ts.getD k ⟨#[]⟩ := ⟨_, rfl⟩
      have hin : s ∈ ts := by rw [hse]; simp [List.getD_eq_getElem?_getD, List.getElem?_eq_getElem hlt]
      have hsz : s.size ≤ maxLen := HSZ.out s hin
      rw [← hse] at hck
      have HSE := Lib.hid hse
      clear hse
      go_wp2_with fail
      refine (key_any s _ hsz).mono ?_
      rintro e w1 ⟨rfl, hb⟩
      have HB2 := Lib.hid (HB.out.trans (hb.mono HB.out.size))
      clear hb
      cases hp : keyB s
      · have hz : false = x := by
          rw [← HX.out, eq_comm, ← Bool.not_eq_true, List.all_eq_true]
          intro h
          rw [h s hin] at hp
          cases hp
        subst hz
        clear hp hin
        go_wp2_with fail
        refine leaves_cons (f := 257) (args := #[]) (by simp) (by simp [go_sem]) ?_
        refine (rec_idle _).mono ?_
        rintro e u' w'' ⟨rfl, rfl, rfl⟩
        exact ⟨_, results_tmp rfl _ _ _, rfl, HB2.out⟩
      · have HP := Lib.hid hp
        clear hp hin
        go_wp2_with fail
        refine ⟨⟨k + 1, by omega, by go_num, HB2.out, fun j hj => ?_⟩, by simp [intOf]; omega⟩
        by_cases e : j = k
        · subst e; rw [← HSE.out]; exact HP.out
        · exact HOK.out j (by omega)
    · have hz : true = x := by
        rw [← HX.out, eq_comm, List.all_eq_true]
        intro s hs
        obtain ⟨i, hi, rfl⟩ := List.getElem_of_mem hs
        have := HOK.out i (by omega)
        rw [List.getD_eq_getElem?_getD, List.getElem?_eq_getElem hi] at this
        exact this
      subst hz
      go_wp2_with fail
      refine leaves_cons (f := 257) (args := #[]) (by simp) (by simp [go_sem]) ?_
      refine (rec_idle _).mono ?_
      rintro e u' w'' ⟨rfl, rfl, rfl⟩
      exact ⟨_, results_tmp rfl _ _ _, rfl, HB.out⟩
end Go.Proofs.YtdnhgodfmjapmaaGreatDoor
