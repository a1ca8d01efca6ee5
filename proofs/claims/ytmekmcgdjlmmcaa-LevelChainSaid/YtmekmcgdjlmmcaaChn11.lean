/-
  Part 11: what the statement needs of these texts: NamA, NamK.
-/
import Derived.BigQuiet
import Derived.Deep.OwnRows
import Derived.Deep.QuietTactic
import Derived.Defers
import Derived.Lib.Hide
import Derived.Lib.OthersKept
import Derived.ProofKit
import Derived.Recover
import Derived.Test.YtmekmcgdjlmmcaaRows
import Derived.WalkKit
import Derived.WalkLawsBesides
import Derived.WalkSmall
import Derived.WalkSpells
import Derived.Test.YtmekmcgdjlmmcaaChn4
import Derived.Test.YtmekmcgdjlmmcaaChn7
import Derived.Test.YtmekmcgdjlmmcaaChn9
namespace Go.Proofs.Ytmekmcgdjlmmcaa
open Go.RowKit Go.Deep

theorem rec_idle (w : World) : CallsD Try.prog 64 #[] .returning w fun e u' w' => e = .returned (.tuple #[]) ∧ u' = .returning ∧ w' = w := by
  refine callsD_of_wpS Try.func64 rfl fun c₀ cs hu => ?_
  apply wpS_region
  cases c₀
  simp_all [wpOpsS, go_sem, recoverD, Try.ntmps64, bodyPostS, results, Try.results64]

end Go.Proofs.Ytmekmcgdjlmmcaa

namespace Go.Proofs.Ytmekmcgdjlmmcaa
open Go.RowKit Go.Deep

set_option maxRecDepth 100000 in
theorem all_key (v : Value) (ts : List ByteArray) (x : Bool) (w : World) (hv : Strs w 0 v ts) (hl : ts.length ≤ maxLen) (hs : ∀ t ∈ ts, t.size ≤ maxLen) (hx : ts.all keyB = x) :
    Calls Try.prog 54 #[.func (.func 55) #[] #[], v] w fun e w' => e = .returned (.bool x) ∧ Below w.heap.size w w' := by
  have qn : ∀ w, (binOp .eql 32 (.func (.func 55) #[] #[]) .nilFunc).run Try.prog w = .ok (.bool false) w := fun _ => by kernel_rfl
  unfold maxLen at hl
  have HV := Lib.hid hv
  have HX := Lib.hid hx
  have HSZ := Lib.hid hs
  obtain ⟨a, cap, rfl⟩ := hv.form
  clear hv hx hs
  go_enter_defers Try.func54, Try.ntmps54
  go_wp2_with fail
  go_loopw [9] (fun i wr => ∃ k : Nat, k ≤ ts.length ∧ i = .int .i64 k ∧ Below w.heap.size w wr ∧ ∀ j, j < k → keyB (ts.getD j ⟨#[]⟩) = true) (fun i _ => ts.length - (intOf i).toNat)
  case atStart => exact ⟨0, Nat.zero_le _, rfl, Below.refl _ _, fun j hj => by omega⟩
  case round =>
    obtain ⟨k, hk, rfl, hb, hok⟩ := hrel
    have HB := Lib.hid hb
    have HOK := Lib.hid hok
    clear hb hok
    by_cases hlt : k < ts.length
    · obtain ⟨b, o, rfl, hck⟩ := (HV.out.below HB.out (Nat.le_refl _)).cellAt hlt
      obtain ⟨s, hse⟩ : ∃ s, s = ts.getD k ⟨#[]⟩ := ⟨_, rfl⟩
      have hin : s ∈ ts := by rw [hse]; simp [List.getD_eq_getElem?_getD, List.getElem?_eq_getElem hlt]
      have hsz : s.size ≤ maxLen := HSZ.out s hin
      rw [← hse] at hck
      have HSE := Lib.hid hse
      clear hse
      go_wp2_with fail
      refine (key_any s _ hsz).mono ?_
      rintro e w1 ⟨rfl, hb⟩
      have HB2 := Lib.hid (HB.out.trans (hb.mono HB.out.size))
      clear hb
      cases hp : keyB s
      · have hz : false = x := by
          rw [← HX.out, eq_comm, ← Bool.not_eq_true, List.all_eq_true]
          intro h
          rw [h s hin] at hp
          cases hp
        subst hz
        clear hp hin
        go_wp2_with fail
        refine leaves_cons (f := 64) (args := #[]) (by simp) (by simp [go_sem]) ?_
        refine (rec_idle _).mono ?_
        rintro e u' w'' ⟨rfl, rfl, rfl⟩
        exact ⟨_, results_tmp rfl _ _ _, rfl, HB2.out⟩
      · have HP := Lib.hid hp
        clear hp hin
        go_wp2_with fail
        refine ⟨⟨k + 1, by omega, by go_num, HB2.out, fun j hj => ?_⟩, by simp [intOf]; omega⟩
        by_cases e : j = k
        · subst e; rw [← HSE.out]; exact HP.out
        · exact HOK.out j (by omega)
    · have hz : true = x := by
        rw [← HX.out, eq_comm, List.all_eq_true]
        intro s hs
        obtain ⟨i, hi, rfl⟩ := List.getElem_of_mem hs
        have := HOK.out i (by omega)
        rw [List.getD_eq_getElem?_getD, List.getElem?_eq_getElem hi] at this
        exact this
      subst hz
      go_wp2_with fail
      refine leaves_cons (f := 64) (args := #[]) (by simp) (by simp [go_sem]) ?_
      refine (rec_idle _).mono ?_
      rintro e u' w'' ⟨rfl, rfl, rfl⟩
      exact ⟨_, results_tmp rfl _ _ _, rfl, HB.out⟩
end Go.Proofs.Ytmekmcgdjlmmcaa

