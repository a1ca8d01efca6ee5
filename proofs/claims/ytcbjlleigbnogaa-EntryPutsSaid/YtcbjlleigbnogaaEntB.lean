/-
  entry: Put of each kind. (Printed by mk_entb.py.)
-/
import Derived.Test.YtcbjlleigbnogaaEntA
import Derived.Deep.RegionHeld3
namespace Go.Proofs.Ytcbjlleigbnogaa
open Go.RowKit Go.Deep
set_option linter.unusedVariables false
set_option linter.unusedSimpArgs false

theorem wide_place : Wide [6, 2, 5, 7] := ⟨rfl, fun i hi => match i, hi with | 0, _ | 1, _ | 2, _ | 3, _ => ⟨by decide, by decide⟩⟩
theorem wide_link : Wide [5, 6, 6, 3] := ⟨rfl, fun i hi => match i, hi with | 0, _ | 1, _ | 2, _ | 3, _ => ⟨by decide, by decide⟩⟩
theorem wide_mark : Wide [6, 6, 6, 2] := ⟨rfl, fun i hi => match i, hi with | 0, _ | 1, _ | 2, _ | 3, _ => ⟨by decide, by decide⟩⟩

theorem keep4 {w1 w2 : World} (hb : Below w1.heap.size w1 w2) {b i : Nat} {v : Value} (h : w1.cell? ⟨b, i, none⟩ = some v) : w2.cell? ⟨b, i, none⟩ = some v :=
  (hb.cell (p := ⟨b, i, none⟩) (World.block_lt_of_cell? _ _ h)).trans h
theorem below_on {B : Nat} {w w1 w2 : World} (hb : Below w1.heap.size w1 w2) (h : Below B w w1) (hB : B ≤ w.heap.size) : Below B w w2 := h.trans (hb.mono (Nat.le_trans hB h.size))
def PutPost (w : World) (ws : List Nat) (xs : List Int) (e : Ending) (w' : World) : Prop := e = .returned (.tuple #[.string (put4 ws xs), .bool (fit4 ws xs)]) ∧ Below w.heap.size w w'

set_option maxHeartbeats 1000000 in
theorem placePut_any (a b c d : Int) (w : World) : Calls Try.prog 7 #[.agg #[.int .i64 a, .int .i64 b, .int .i64 c, .int .i64 d]] w (PutPost w [6, 2, 5, 7] [a, b, c, d]) := by
  have k0 : (w.alloc (.cells #[.int .i64 a, .int .i64 b, .int .i64 c, .int .i64 d] 23)).cell? ⟨w.heap.size, 0, none⟩ = some (.int .i64 a) := cells4 w a b c d _ 0 (by decide)
  have k1 : (w.alloc (.cells #[.int .i64 a, .int .i64 b, .int .i64 c, .int .i64 d] 23)).cell? ⟨w.heap.size, 1, none⟩ = some (.int .i64 b) := cells4 w a b c d _ 1 (by decide)
  have k2 : (w.alloc (.cells #[.int .i64 a, .int .i64 b, .int .i64 c, .int .i64 d] 23)).cell? ⟨w.heap.size, 2, none⟩ = some (.int .i64 c) := cells4 w a b c d _ 2 (by decide)
  have k3 : (w.alloc (.cells #[.int .i64 a, .int .i64 b, .int .i64 c, .int .i64 d] 23)).cell? ⟨w.heap.size, 3, none⟩ = some (.int .i64 d) := cells4 w a b c d _ 3 (by decide)
  have HS : Hid (Below w.heap.size w (w.alloc (.cells #[.int .i64 a, .int .i64 b, .int .i64 c, .int .i64 d] 23))) := Lib.hid ((Below.refl _ _).alloc (Nat.le_refl _) _)
  have hz : (w.alloc (.cells #[.int .i64 a, .int .i64 b, .int .i64 c, .int .i64 d] 23)).heap.size = w.heap.size + 1 := by simp
  go_enter Try.func7, Try.ntmps7
  obtain ⟨W, hW⟩ : ∃ W, W = w.alloc (.cells #[.int .i64 a, .int .i64 b, .int .i64 c, .int .i64 d] 23) := ⟨_, rfl⟩
  rw [← hW] at k0 k1 k2 k3 HS hz
  have HW := Lib.hid hW
  have HZ := Lib.hid hz
  clear hW hz
  go_wp2_with fail
  rw [← HW.out]
  go_region_held3 (fun w' => w'.cell? ⟨w.heap.size, 0, none⟩ = some (.int .i64 a) ∧ w'.cell? ⟨w.heap.size, 1, none⟩ = some (.int .i64 b) ∧ w'.cell? ⟨w.heap.size, 2, none⟩ = some (.int .i64 c) ∧ w'.cell? ⟨w.heap.size, 3, none⟩ = some (.int .i64 d))
    (first | exact ⟨k0, k1, k2, k3⟩ | go_keep)
    (first
      | (go_at_call 16
         refine (placeW_any _).mono ?_
         rintro e w1 ⟨v, rfl, hv, hb⟩
         obtain ⟨va, vc, hve, hvr⟩ := id hv
         subst hve
         have k0 := keep4 hb k0
         have k1 := keep4 hb k1
         have k2 := keep4 hb k2
         have k3 := keep4 hb k3
         have HV := Lib.hid hv
         have HB := Lib.hid hb
         clear hb hv hvr)
      | (go_at_call 15
         refine (put_any [6, 2, 5, 7] wide_place a b c d _ _ ?_).mono ?_
         · first | exact HV.out
         rintro e w2 ⟨rfl, hb2⟩
         have k0 := keep4 hb2 k0
         have k1 := keep4 hb2 k1
         have k2 := keep4 hb2 k2
         have k3 := keep4 hb2 k3
         have HB2 := Lib.hid hb2
         clear hb2))
  all_goals
    go_wp2_with fail
    go_ret2
    refine ⟨rfl, ?_⟩
    repeat (first | exact HS.out | with_reducible refine Below.drew ?_ | with_reducible refine Below.drewN ?_ _ | refine below_on HB2.out ?_ (Nat.le_refl _) | refine below_on HB.out ?_ (Nat.le_refl _))

set_option maxHeartbeats 1000000 in
theorem linkPut_any (a b c d : Int) (w : World) : Calls Try.prog 8 #[.agg #[.int .i64 a, .int .i64 b, .int .i64 c, .int .i64 d]] w (PutPost w [5, 6, 6, 3] [a, b, c, d]) := by
  have k0 : (w.alloc (.cells #[.int .i64 a, .int .i64 b, .int .i64 c, .int .i64 d] 25)).cell? ⟨w.heap.size, 0, none⟩ = some (.int .i64 a) := cells4 w a b c d _ 0 (by decide)
  have k1 : (w.alloc (.cells #[.int .i64 a, .int .i64 b, .int .i64 c, .int .i64 d] 25)).cell? ⟨w.heap.size, 1, none⟩ = some (.int .i64 b) := cells4 w a b c d _ 1 (by decide)
  have k2 : (w.alloc (.cells #[.int .i64 a, .int .i64 b, .int .i64 c, .int .i64 d] 25)).cell? ⟨w.heap.size, 2, none⟩ = some (.int .i64 c) := cells4 w a b c d _ 2 (by decide)
  have k3 : (w.alloc (.cells #[.int .i64 a, .int .i64 b, .int .i64 c, .int .i64 d] 25)).cell? ⟨w.heap.size, 3, none⟩ = some (.int .i64 d) := cells4 w a b c d _ 3 (by decide)
  have HS : Hid (Below w.heap.size w (w.alloc (.cells #[.int .i64 a, .int .i64 b, .int .i64 c, .int .i64 d] 25))) := Lib.hid ((Below.refl _ _).alloc (Nat.le_refl _) _)
  have hz : (w.alloc (.cells #[.int .i64 a, .int .i64 b, .int .i64 c, .int .i64 d] 25)).heap.size = w.heap.size + 1 := by simp
  go_enter Try.func8, Try.ntmps8
  obtain ⟨W, hW⟩ : ∃ W, W = w.alloc (.cells #[.int .i64 a, .int .i64 b, .int .i64 c, .int .i64 d] 25) := ⟨_, rfl⟩
  rw [← hW] at k0 k1 k2 k3 HS hz
  have HW := Lib.hid hW
  have HZ := Lib.hid hz
  clear hW hz
  go_wp2_with fail
  rw [← HW.out]
  go_region_held3 (fun w' => w'.cell? ⟨w.heap.size, 0, none⟩ = some (.int .i64 a) ∧ w'.cell? ⟨w.heap.size, 1, none⟩ = some (.int .i64 b) ∧ w'.cell? ⟨w.heap.size, 2, none⟩ = some (.int .i64 c) ∧ w'.cell? ⟨w.heap.size, 3, none⟩ = some (.int .i64 d))
    (first | exact ⟨k0, k1, k2, k3⟩ | go_keep)
    (first
      | (go_at_call 17
         refine (linkW_any _).mono ?_
         rintro e w1 ⟨v, rfl, hv, hb⟩
         obtain ⟨va, vc, hve, hvr⟩ := id hv
         subst hve
         have k0 := keep4 hb k0
         have k1 := keep4 hb k1
         have k2 := keep4 hb k2
         have k3 := keep4 hb k3
         have HV := Lib.hid hv
         have HB := Lib.hid hb
         clear hb hv hvr)
      | (go_at_call 15
         refine (put_any [5, 6, 6, 3] wide_link a b c d _ _ ?_).mono ?_
         · first | exact HV.out
         rintro e w2 ⟨rfl, hb2⟩
         have k0 := keep4 hb2 k0
         have k1 := keep4 hb2 k1
         have k2 := keep4 hb2 k2
         have k3 := keep4 hb2 k3
         have HB2 := Lib.hid hb2
         clear hb2))
  all_goals
    go_wp2_with fail
    go_ret2
    refine ⟨rfl, ?_⟩
    repeat (first | exact HS.out | with_reducible refine Below.drew ?_ | with_reducible refine Below.drewN ?_ _ | refine below_on HB2.out ?_ (Nat.le_refl _) | refine below_on HB.out ?_ (Nat.le_refl _))

set_option maxHeartbeats 1000000 in
theorem markPut_any (a b c d : Int) (w : World) : Calls Try.prog 9 #[.agg #[.int .i64 a, .int .i64 b, .int .i64 c, .int .i64 d]] w (PutPost w [6, 6, 6, 2] [a, b, c, d]) := by
  have k0 : (w.alloc (.cells #[.int .i64 a, .int .i64 b, .int .i64 c, .int .i64 d] 27)).cell? ⟨w.heap.size, 0, none⟩ = some (.int .i64 a) := cells4 w a b c d _ 0 (by decide)
  have k1 : (w.alloc (.cells #[.int .i64 a, .int .i64 b, .int .i64 c, .int .i64 d] 27)).cell? ⟨w.heap.size, 1, none⟩ = some (.int .i64 b) := cells4 w a b c d _ 1 (by decide)
  have k2 : (w.alloc (.cells #[.int .i64 a, .int .i64 b, .int .i64 c, .int .i64 d] 27)).cell? ⟨w.heap.size, 2, none⟩ = some (.int .i64 c) := cells4 w a b c d _ 2 (by decide)
  have k3 : (w.alloc (.cells #[.int .i64 a, .int .i64 b, .int .i64 c, .int .i64 d] 27)).cell? ⟨w.heap.size, 3, none⟩ = some (.int .i64 d) := cells4 w a b c d _ 3 (by decide)
  have HS : Hid (Below w.heap.size w (w.alloc (.cells #[.int .i64 a, .int .i64 b, .int .i64 c, .int .i64 d] 27))) := Lib.hid ((Below.refl _ _).alloc (Nat.le_refl _) _)
  have hz : (w.alloc (.cells #[.int .i64 a, .int .i64 b, .int .i64 c, .int .i64 d] 27)).heap.size = w.heap.size + 1 := by simp
  go_enter Try.func9, Try.ntmps9
  obtain ⟨W, hW⟩ : ∃ W, W = w.alloc (.cells #[.int .i64 a, .int .i64 b, .int .i64 c, .int .i64 d] 27) := ⟨_, rfl⟩
  rw [← hW] at k0 k1 k2 k3 HS hz
  have HW := Lib.hid hW
  have HZ := Lib.hid hz
  clear hW hz
  go_wp2_with fail
  rw [← HW.out]
  go_region_held3 (fun w' => w'.cell? ⟨w.heap.size, 0, none⟩ = some (.int .i64 a) ∧ w'.cell? ⟨w.heap.size, 1, none⟩ = some (.int .i64 b) ∧ w'.cell? ⟨w.heap.size, 2, none⟩ = some (.int .i64 c) ∧ w'.cell? ⟨w.heap.size, 3, none⟩ = some (.int .i64 d))
    (first | exact ⟨k0, k1, k2, k3⟩ | go_keep)
    (first
      | (go_at_call 18
         refine (markW_any _).mono ?_
         rintro e w1 ⟨v, rfl, hv, hb⟩
         obtain ⟨va, vc, hve, hvr⟩ := id hv
         subst hve
         have k0 := keep4 hb k0
         have k1 := keep4 hb k1
         have k2 := keep4 hb k2
         have k3 := keep4 hb k3
         have HV := Lib.hid hv
         have HB := Lib.hid hb
         clear hb hv hvr)
      | (go_at_call 15
         refine (put_any [6, 6, 6, 2] wide_mark a b c d _ _ ?_).mono ?_
         · first | exact HV.out
         rintro e w2 ⟨rfl, hb2⟩
         have k0 := keep4 hb2 k0
         have k1 := keep4 hb2 k1
         have k2 := keep4 hb2 k2
         have k3 := keep4 hb2 k3
         have HB2 := Lib.hid hb2
         clear hb2))
  all_goals
    go_wp2_with fail
    go_ret2
    refine ⟨rfl, ?_⟩
    repeat (first | exact HS.out | with_reducible refine Below.drew ?_ | with_reducible refine Below.drewN ?_ _ | refine below_on HB2.out ?_ (Nat.le_refl _) | refine below_on HB.out ?_ (Nat.le_refl _))
end Go.Proofs.Ytcbjlleigbnogaa
