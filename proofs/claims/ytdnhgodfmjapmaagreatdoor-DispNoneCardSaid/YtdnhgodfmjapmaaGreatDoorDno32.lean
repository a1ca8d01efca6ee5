/- A part. -/
import Derived.Deep.RegionHeld3
import Derived.Test.YtdnhgodfmjapmaaGreatDoorDno31
set_option linter.unusedVariables false
set_option linter.unusedSimpArgs false
namespace Go.Proofs.YtdnhgodfmjapmaaGreatDoor
open Go.RowKit Go.Deep
theorem wide_place : Wide [6, 2, 5, 7] := ⟨rfl, fun i hi => match i, hi with | 0, _ | 1, _ | 2, _ | 3, _ => ⟨by decide, by decide⟩⟩
theorem wide_link : Wide [5, 6, 6, 3] := ⟨rfl, fun i hi => match i, hi with | 0, _ | 1, _ | 2, _ | 3, _ => ⟨by decide, by decide⟩⟩
theorem keep4 {w1 w2 : World} (hb : Below w1.heap.size w1 w2) {b i : Nat} {v : Value} (h : w1.cell? ⟨b, i, none⟩ = some v) : w2.cell? ⟨b, i, none⟩ = some v :=
  (hb.cell (p := ⟨b, i, none⟩) (World.block_lt_of_cell? _ _ h)).trans h
theorem below_on {B : Nat} {w w1 w2 : World} (hb : Below w1.heap.size w1 w2) (h : Below B w w1) (hB : B ≤ w.heap.size) : Below B w w2 := h.trans (hb.mono (Nat.le_trans hB h.size))
def PutPost (w : World) (ws : List Nat) (xs : List Int) (e : Ending) (w' : World) : Prop := e = .returned (.tuple #[.string (put4 ws xs), .bool (fit4 ws xs)]) ∧ Below w.heap.size w w'
set_option maxHeartbeats 1000000 in
theorem placePut_any (a b c d : Int) (w : World) : Calls Tryz.prog 153 #[.agg #[.int .i64 a, .int .i64 b, .int .i64 c, .int .i64 d]] w (PutPost w [6, 2, 5, 7] [a, b, c, d]) := by
  have k0 : (w.alloc (.cells #[.int .i64 a, .int .i64 b, .int .i64 c, .int .i64 d] 54)).cell? ⟨w.heap.size, 0, none⟩ = some (.int .i64 a) := cells4 w a b c d _ 0 (by decide)
  have k1 : (w.alloc (.cells #[.int .i64 a, .int .i64 b, .int .i64 c, .int .i64 d] 54)).cell? ⟨w.heap.size, 1, none⟩ = some (.int .i64 b) := cells4 w a b c d _ 1 (by decide)
  have k2 : (w.alloc (.cells #[.int .i64 a, .int .i64 b, .int .i64 c, .int .i64 d] 54)).cell? ⟨w.heap.size, 2, none⟩ = some (.int .i64 c) := cells4 w a b c d _ 2 (by decide)
  have k3 : (w.alloc (.cells #[.int .i64 a, .int .i64 b, .int .i64 c, .int .i64 d] 54)).cell? ⟨w.heap.size, 3, none⟩ = some (.int .i64 d) := cells4 w a b c d _ 3 (by decide)
  have HS : Hid (Below w.heap.size w (w.alloc (.cells #[.int .i64 a, .int .i64 b, .int .i64 c, .int .i64 d] 54))) := Lib.hid ((Below.refl _ _).alloc (Nat.le_refl _) _)
  have hz : (w.alloc (.cells #[.int .i64 a, .int .i64 b, .int .i64 c, .int .i64 d] 54)).heap.size = w.heap.size + 1 := by simp
  go_enter Tryz.func153, Tryz.ntmps153
  obtain ⟨W, hW⟩ : ∃ W, W = w.alloc (.cells #[.int .i64 a, .int .i64 b, .int .i64 c, .int .i64 d] 54) := ⟨_, rfl⟩
  rw [← hW] at k0 k1 k2 k3 HS hz
  have HW := Lib.hid hW
  have HZ := Lib.hid hz
  clear hW hz
  go_wp2_with fail
  rw [← HW.out]
  go_region_held3 (fun w' => w'.cell? ⟨w.heap.size, 0, none⟩ = some (.int .i64 a) ∧ w'.cell? ⟨w.heap.size, 1, none⟩ = some (.int .i64 b) ∧ w'.cell? ⟨w.heap.size, 2, none⟩ = some (.int .i64 c) ∧ w'.cell? ⟨w.heap.size, 3, none⟩ = some (.int .i64 d))
    (first | exact ⟨k0, k1, k2, k3⟩ | go_keep)
    (first
      | (go_at_call 129
         refine (placeW_any _).mono ?_
         rintro e w1 ⟨v, rfl, hv, hb⟩
         obtain ⟨va, vc, hve, hvr⟩ := id hv
         subst hve
         have k0 := keep4 hb k0
         have k1 := keep4 hb k1
         have k2 := keep4 hb k2
         have k3 := keep4 hb k3
         have HV := Lib.hid hv
         have HB := Lib.hid hb
         clear hb hv hvr)
      | (go_at_call 208
         refine (ent_put_any [6, 2, 5, 7] wide_place a b c d _ _ ?_).mono ?_
         · first | exact HV.out
         rintro e w2 ⟨rfl, hb2⟩
         have k0 := keep4 hb2 k0
         have k1 := keep4 hb2 k1
         have k2 := keep4 hb2 k2
         have k3 := keep4 hb2 k3
         have HB2 := Lib.hid hb2
         clear hb2))
  all_goals
    go_wp2_with fail
    go_ret2
    refine ⟨rfl, ?_⟩
    repeat (first | exact HS.out | with_reducible refine Below.drew ?_ | with_reducible refine Below.drewN ?_ _ | refine below_on HB2.out ?_ (Nat.le_refl _) | refine below_on HB.out ?_ (Nat.le_refl _))
set_option maxHeartbeats 1000000 in
theorem linkPut_any (a b c d : Int) (w : World) : Calls Tryz.prog 214 #[.agg #[.int .i64 a, .int .i64 b, .int .i64 c, .int .i64 d]] w (PutPost w [5, 6, 6, 3] [a, b, c, d]) := by
  have k0 : (w.alloc (.cells #[.int .i64 a, .int .i64 b, .int .i64 c, .int .i64 d] 111)).cell? ⟨w.heap.size, 0, none⟩ = some (.int .i64 a) := cells4 w a b c d _ 0 (by decide)
  have k1 : (w.alloc (.cells #[.int .i64 a, .int .i64 b, .int .i64 c, .int .i64 d] 111)).cell? ⟨w.heap.size, 1, none⟩ = some (.int .i64 b) := cells4 w a b c d _ 1 (by decide)
  have k2 : (w.alloc (.cells #[.int .i64 a, .int .i64 b, .int .i64 c, .int .i64 d] 111)).cell? ⟨w.heap.size, 2, none⟩ = some (.int .i64 c) := cells4 w a b c d _ 2 (by decide)
  have k3 : (w.alloc (.cells #[.int .i64 a, .int .i64 b, .int .i64 c, .int .i64 d] 111)).cell? ⟨w.heap.size, 3, none⟩ = some (.int .i64 d) := cells4 w a b c d _ 3 (by decide)
  have HS : Hid (Below w.heap.size w (w.alloc (.cells #[.int .i64 a, .int .i64 b, .int .i64 c, .int .i64 d] 111))) := Lib.hid ((Below.refl _ _).alloc (Nat.le_refl _) _)
  have hz : (w.alloc (.cells #[.int .i64 a, .int .i64 b, .int .i64 c, .int .i64 d] 111)).heap.size = w.heap.size + 1 := by simp
  go_enter Tryz.func214, Tryz.ntmps214
  obtain ⟨W, hW⟩ : ∃ W, W = w.alloc (.cells #[.int .i64 a, .int .i64 b, .int .i64 c, .int .i64 d] 111) := ⟨_, rfl⟩
  rw [← hW] at k0 k1 k2 k3 HS hz
  have HW := Lib.hid hW
  have HZ := Lib.hid hz
  clear hW hz
  go_wp2_with fail
  rw [← HW.out]
  go_region_held3 (fun w' => w'.cell? ⟨w.heap.size, 0, none⟩ = some (.int .i64 a) ∧ w'.cell? ⟨w.heap.size, 1, none⟩ = some (.int .i64 b) ∧ w'.cell? ⟨w.heap.size, 2, none⟩ = some (.int .i64 c) ∧ w'.cell? ⟨w.heap.size, 3, none⟩ = some (.int .i64 d))
    (first | exact ⟨k0, k1, k2, k3⟩ | go_keep)
    (first
      | (go_at_call 189
         refine (linkW_any _).mono ?_
         rintro e w1 ⟨v, rfl, hv, hb⟩
         obtain ⟨va, vc, hve, hvr⟩ := id hv
         subst hve
         have k0 := keep4 hb k0
         have k1 := keep4 hb k1
         have k2 := keep4 hb k2
         have k3 := keep4 hb k3
         have HV := Lib.hid hv
         have HB := Lib.hid hb
         clear hb hv hvr)
      | (go_at_call 208
         refine (ent_put_any [5, 6, 6, 3] wide_link a b c d _ _ ?_).mono ?_
         · first | exact HV.out
         rintro e w2 ⟨rfl, hb2⟩
         have k0 := keep4 hb2 k0
         have k1 := keep4 hb2 k1
         have k2 := keep4 hb2 k2
         have k3 := keep4 hb2 k3
         have HB2 := Lib.hid hb2
         clear hb2))
  all_goals
    go_wp2_with fail
    go_ret2
    refine ⟨rfl, ?_⟩
    repeat (first | exact HS.out | with_reducible refine Below.drew ?_ | with_reducible refine Below.drewN ?_ _ | refine below_on HB2.out ?_ (Nat.le_refl _) | refine below_on HB.out ?_ (Nat.le_refl _))
def offK (ws : List Nat) : Nat → Nat
  | 0 => 0
  | k + 1 => offK ws k + ws.getD k 0
theorem row4 (w : World) (t : TypeId) : (w.alloc (.cells #[.int .i64 0, .int .i64 0, .int .i64 0, .int .i64 0] t)).rowIs w.heap.size t 4 (fun _ => .int .i64 0) :=
  World.rowIs_alloc w _ t _ (fun i hi => match i, hi with | 0, _ | 1, _ | 2, _ | 3, _ => rfl)
theorem bytesK_length (ws : List Nat) (xs : List Int) : ∀ k, (bytesK ws xs k).length = offK ws k
  | 0 => rfl
  | k + 1 => by rw [bytesK, List.length_append, bytesK_length ws xs k, Oc.numB_length, offK]
structure PlM where
  a : Int
  b : Int
  c : Int
  d : Int
def PlM.val (p : PlM) : Value := .agg #[.int .i64 p.a, .int .i64 p.b, .int .i64 p.c, .int .i64 p.d]
def PlM.fit (p : PlM) : Bool := fit4 [6, 2, 5, 7] [p.a, p.b, p.c, p.d]
def PlM.tx (p : PlM) : ByteArray := put4 [6, 2, 5, 7] [p.a, p.b, p.c, p.d]
def PlM.bs (p : PlM) : List UInt8 := p.tx.data.toList
theorem PlM.bs_len {p : PlM} (h : p.fit = true) : p.bs.length = 20 := by
  have e : p.tx = ⟨(bytesK [6, 2, 5, 7] [p.a, p.b, p.c, p.d] 4).toArray⟩ := by unfold PlM.tx put4; rw [show fit4 [6, 2, 5, 7] [p.a, p.b, p.c, p.d] = true from h]; rfl
  unfold PlM.bs
  rw [e]
  show (bytesK [6, 2, 5, 7] [p.a, p.b, p.c, p.d] 4).length = 20
  rw [bytesK_length]
  rfl
theorem PlM.tx_size {p : PlM} (h : p.fit = true) : p.tx.size = 20 := by
  show p.tx.data.size = 20
  rw [← Array.length_toList]
  exact PlM.bs_len h
def bytesE (l : List PlM) : List UInt8 := l.flatMap PlM.bs
theorem bytesE_app (a b : List PlM) : bytesE (a ++ b) = bytesE a ++ bytesE b := by unfold bytesE; rw [List.flatMap_append]
theorem bytesE_len : ∀ {l : List PlM}, (∀ p ∈ l, p.fit = true) → (bytesE l).length = 20 * l.length
  | [], _ => rfl
  | p :: l, h => by
    show (p.bs ++ bytesE l).length = _
    rw [List.length_append, PlM.bs_len (h p (List.mem_cons_self ..)), bytesE_len fun q hq => h q (List.mem_cons_of_mem _ hq), List.length_cons]
    omega
end Go.Proofs.YtdnhgodfmjapmaaGreatDoor
