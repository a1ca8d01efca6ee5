/-
  The law's example; TagTexts walked.
-/
import Derived.Test.YtdhpemkmfkcadaaDoorTagD
namespace Go.Proofs.YtdhpemkmfkcadaaDoor
open Go.RowKit Go.ChangeMaps Go.WideShapes Go.Deep
set_option linter.unusedVariables false
set_option linter.unusedSimpArgs false

theorem awL : parseL ⟨#[120, 32, 124, 124, 32, 121]⟩ = [⟨#[120]⟩, ⟨#[121]⟩] := by decide +kernel
theorem awE : newE [⟨#[120]⟩, ⟨#[121]⟩] = 0 := by decide +kernel
theorem awY : wantB [⟨#[120]⟩, ⟨#[121]⟩] ⟨#[121]⟩ = true := by decide +kernel
theorem awZ : wantB [⟨#[120]⟩, ⟨#[121]⟩] ⟨#[122]⟩ = false := by decide +kernel
theorem awake_any (m : Int) (w : World) (hm : w.cell? ⟨0, 0, none⟩ = some (.int .i64 m)) :
    Calls Tryd.prog 5 #[] w fun e w' => e = .returned (.bool true) ∧ Below w.heap.size w w' := by
  have HP := Lib.hid (parse_any ⟨#[120, 32, 124, 124, 32, 121]⟩ m w hm (by decide))
  clear hm
  go_enter Tryd.func5, Tryd.ntmps5
  go_wp2_with fail
  refine HP.out.mono ?_
  rintro e w1 ⟨hb, p, x, rfl, hp, _⟩
  rw [awL] at hp
  obtain ⟨rfl, fb, rfl, hf⟩ := hp awE
  have HF := Lib.hid hf
  have HB := Lib.hid hb
  clear hp hf hb
  go_wp2_with fail
  refine (wants_any fb _ ⟨#[121]⟩ true w1 HF.out (by decide) awY).mono ?_
  rintro e w2 ⟨rfl, rfl⟩
  go_wp2_with fail
  refine (wants_any fb _ ⟨#[122]⟩ false w1 HF.out (by decide) awZ).mono ?_
  rintro e w2 ⟨rfl, rfl⟩
  go_wp2_with fail
  go_ret
  exact ⟨rfl, HB.out⟩

set_option maxHeartbeats 1000000 in
set_option maxRecDepth 100000 in
theorem walkM_TagTexts (s : ByteArray) (h : Int) (m : Int) (w : World) (hm : w.cell? ⟨0, 0, none⟩ = some (.int .i64 m)) (hs : s.size ≤ maxLen) (_ : (Lit.int .i64 h).wf = true) :
    Calls Tryd.prog 3 #[.string s, .int .i64 h] w fun e w' => e = .returned (.bool true) ∧ Below w.heap.size w w' := by
  unfold maxLen at hs
  have HM := Lib.hid hm
  have hm0 := World.block_lt_of_cell? _ _ hm
  have HM0 := Lib.hid hm0
  clear hm hm0
  go_enter Tryd.func3, Tryd.ntmps3
  go_wp2_with fail
  refine (awake_any m w HM.out).mono ?_
  rintro e w1 ⟨rfl, hb⟩
  have HB := Lib.hid hb
  clear hb
  by_cases hl : 300 < s.size
  · go_wp2_with fail
    go_ret
    exact ⟨rfl, HB.out⟩
  · go_wp2_with fail
    refine (parse_any s m w1 ((HB.out.cell HM0.out).trans HM.out) (by omega)).mono ?_
    rintro e w2 ⟨hb, p, x, rfl, hp1, hp2⟩
    have HB2 := Lib.hid (HB.out.trans (hb.mono HB.out.size))
    have HP1 := Lib.hid hp1
    have HP2 := Lib.hid hp2
    clear hb hp1 hp2
    go_wp2_with fail
    refine (text_nil _).mono ?_
    rintro e w3 ⟨rfl, rfl⟩
    go_wp2_with fail
    refine (quick_nil h _).mono ?_
    rintro e w3 ⟨rfl, rfl⟩
    go_wp2_with fail
    refine (wants_nil s _).mono ?_
    rintro e w3 ⟨rfl, rfl⟩
    go_wp2_with fail
    have HS1 : Hid (Strs (w2.alloc (.cells #[.string s] 9)) 0 (.slice (some ⟨w2.heap.size, 0, none⟩) 1 1) [s]) := Lib.hid ⟨_, _, rfl, .inr ⟨_, _, rfl, Nat.zero_le _, fun i hi => by
      obtain rfl : i = 0 := by simpa using hi
      simp [go_sem]⟩⟩
    have HB3 : Hid (Below w.heap.size w (w2.alloc (.cells #[.string s] 9))) := Lib.hid (HB2.out.alloc HB2.out.size _)
    have HB23 : Hid (Below w2.heap.size w2 (w2.alloc (.cells #[.string s] 9))) := Lib.hid ((Below.refl _ _).alloc (Nat.le_refl _) _)
    refine (of_nil _ [s] _ HS1.out (by simp)).mono ?_
    rintro e w3 ⟨rfl, rfl⟩
    obtain ⟨W3, hW3⟩ : ∃ W, W = w2.alloc (.cells #[.string s] 9) := ⟨_, rfl⟩
    rw [← hW3] at HB3 HB23 ⊢
    clear hW3 HS1
    by_cases he : newE (parseL s) = 0
    · obtain ⟨rfl, fb, rfl, hf⟩ := HP1.out he
      have HF : Hid (FilAt W3 fb (parseL s)) := Lib.hid (hf.below HB23.out)
      have hlp : (parseL s).length ≤ 5 := by
        unfold parseL
        split
        · exact Nat.zero_le _
        · exact (pieces_ne s).2
      have hj := (parse_text s).2
      have HT := Lib.hid (text_any fb (parseL s) s W3 HF.out (by omega) (by omega) (parse_text s).1)
      clear he hf hlp hj
      go_wp2_with fail
      refine HT.out.mono ?_
      rintro e w4 ⟨rfl, hb⟩
      have HB4 := Lib.hid (HB3.out.trans (hb.mono HB3.out.size))
      clear hb
      go_wp2_with fail
      go_ret
      exact ⟨by simp, HB4.out⟩
    · obtain ⟨rfl, rfl⟩ := HP2.out he
      clear he
      go_wp2_with fail
      go_ret
      exact ⟨rfl, HB3.out⟩
end Go.Proofs.YtdhpemkmfkcadaaDoor
