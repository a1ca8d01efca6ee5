/-
  Same and Copy.
-/
import Derived.Test.YtelpkniockhjgaaGreatRecL
import Derived.Deep.RegionHeld3
import Derived.Deep.RegionWith
namespace Go.Proofs.YtelpkniockhjgaaGreat
open Go.RowKit Go.Deep
set_option linter.unusedVariables false
set_option linter.unusedSimpArgs false

def MsgM.texts (m : MsgM) : List ByteArray := m.topic :: m.tag :: m.body :: m.keys
theorem msg_eq {a b : MsgM} (h1 : a.nums = b.nums) (h2 : a.texts = b.texts) : a = b := by
  obtain ⟨a1, a2, a3, a4, a5, a6, a7, a8, a9, a10⟩ := a
  obtain ⟨b1, b2, b3, b4, b5, b6, b7, b8, b9, b10⟩ := b
  simp only [MsgM.nums, MsgM.texts, List.cons.injEq, and_true] at h1 h2
  obtain ⟨rfl, rfl, rfl, rfl, rfl, rfl⟩ := h1
  obtain ⟨rfl, rfl, rfl, rfl⟩ := h2
  rfl
def TextsTo (m : MsgM) (w : World) (e : Ending) (w' : World) : Prop := ∃ v, e = .returned v ∧ Strs w' 0 v m.texts ∧ Below w.heap.size w w'
set_option maxRecDepth 100000 in
theorem texts_any (m : MsgM) (vk : Value) (w : World) (hk : Strs w 0 vk m.keys) (hn : m.keys.length ≤ 10000) : Calls Tryz.prog 36 #[m.val vk] w (TextsTo m w) := by
  obtain ⟨W1, hW1⟩ : ∃ W, W = (w.alloc (.cells (m.cells vk) 24)).alloc (.cells #[.string m.topic, .string m.tag, .string m.body] 9) := ⟨_, rfl⟩
  have hb1 : Below w.heap.size w W1 := by
    rw [hW1]
    exact ((Below.refl w.heap.size w).alloc (Nat.le_refl _) _).alloc (by simp only [World.size_alloc]; omega) _
  have hown : W1.ownsRow w.heap.size 9 1 (.slice (some ⟨w.heap.size + 1, 0, none⟩) 3 3) 3 [.string m.topic, .string m.tag, .string m.body] := by
    have hg : W1.heap[w.heap.size + 1]? = some (.cells #[.string m.topic, .string m.tag, .string m.body] 9 (0, 0)) := by
      have := heap_alloc_new (w.alloc (.cells (m.cells vk) 24)) (.cells #[.string m.topic, .string m.tag, .string m.body] 9)
      rw [World.size_alloc] at this
      rw [hW1]
      exact this
    exact ⟨by simp, .inr ⟨w.heap.size + 1, 3, #[.string m.topic, .string m.tag, .string m.body], rfl, by omega, hg, Nat.le_refl _, by unfold maxLen; decide, rfl, rfl⟩⟩
  have hst := hk.below hb1 (Nat.le_refl _)
  have HOWN := Lib.hid hown
  have HB1 := Lib.hid hb1
  have HST := Lib.hid hst
  have HW1 := Lib.hid hW1
  clear hb1 hown hst hk hW1
  unfold MsgM.val
  unfold MsgM.cells at *
  go_enter Tryz.func36, Tryz.ntmps36
  go_wp2_with (at_builtin; rw [← HW1.out]; go_must (refine Oc.wpList_append_strs rfl _ _ rfl w.heap.size _ _ 3 [.string m.topic, .string m.tag, .string m.body] m.keys rfl rfl HOWN.out HST.out (by omega) HB1.out.size ?_))
  intro v1 w4 ho hgr
  have hb4 := HB1.out.grown hgr HB1.out.size (fun k e => by cases e; exact Nat.le_succ _)
  have ho2 : w4.ownsRow w.heap.size 9 1 v1 m.texts.length (m.texts.map Value.string) := by
    have e : m.texts.length = 3 + m.keys.length := by unfold MsgM.texts; simp only [List.length_cons]; omega
    rw [e]
    exact ho
  have hs4 := Oc.strs_own ho2
  have HS4 := Lib.hid hs4.zero
  have HB4 := Lib.hid hb4
  obtain ⟨a4, c4, rfl⟩ := hs4.form
  clear ho hgr hb4 ho2 hs4
  go_wp2_with fail
  go_ret
  exact ⟨_, rfl, HS4.out, HB4.out⟩
def sameB (a b : MsgM) : Bool := decide (a.nums = b.nums) && decide (a.texts = b.texts)
theorem sameB_iff {a b : MsgM} : sameB a b = true ↔ a = b := by
  unfold sameB
  rw [Bool.and_eq_true, decide_eq_true_eq, decide_eq_true_eq]
  exact ⟨fun h => msg_eq h.1 h.2, fun h => by rw [h]; exact ⟨rfl, rfl⟩⟩
theorem below_step3 {a b c : World} (h1 : Below a.heap.size a b) (h2 : Below b.heap.size b c) : Below a.heap.size a c := h1.trans (h2.mono h1.size)
theorem below_then3 {a b c : World} {G : Prop} (h2 : Below b.heap.size b c) (h1 : Below a.heap.size a b) (k : Below a.heap.size a c → G) : G := k (below_step3 h1 h2)
theorem ints_thru {a b c : World} {v : Value} {l : List Int} (h : Ints a v l) (h1 : Below a.heap.size a b) (h2 : Below b.heap.size b c) : Ints c v l := h.below (below_step3 h1 h2) (Nat.le_refl _)
theorem strs_thru {a b c : World} {v : Value} {l : List ByteArray} (h : Strs a 0 v l) (h1 : Below a.heap.size a b) (h2 : Below b.heap.size b c) : Strs c 0 v l := h.below (below_step3 h1 h2) (Nat.le_refl _)
theorem below_drew2 {B : Nat} {a w : World} (h : Below B a w) : Below B a w.drew := h.drew
set_option maxHeartbeats 4000000 in
set_option maxRecDepth 100000 in
theorem same_any (a b : MsgM) (va vb : Value) (x : Bool) (w : World) (ha : Strs w 0 va a.keys) (hb : Strs w 0 vb b.keys) (na : a.keys.length ≤ 10000) (nb : b.keys.length ≤ 10000) (hx : sameB a b = x) :
    Calls Tryz.prog 13 #[a.val va, b.val vb] w fun e w' => e = .returned (.bool x) ∧ Below w.heap.size w w' := by
  obtain ⟨W0, hW0⟩ : ∃ W, W = (w.alloc (.cells #[.int .i64 a.kind, .int .i64 a.queue, .int .i64 a.due, .int .i64 a.retry, .int .i64 a.ref, .int .i64 a.born, .string a.topic, .string a.tag, .string a.body, va] 24)).alloc (.cells #[.int .i64 b.kind, .int .i64 b.queue, .int .i64 b.due, .int .i64 b.retry, .int .i64 b.ref, .int .i64 b.born, .string b.topic, .string b.tag, .string b.body, vb] 24) := ⟨_, rfl⟩
  have hl0 : Below w.heap.size w W0 := by
    rw [hW0]
    exact ((Below.refl w.heap.size w).alloc (Nat.le_refl _) _).alloc (by simp only [World.size_alloc]; omega) _
  have hba : Box W0 w.heap.size #[.int .i64 a.kind, .int .i64 a.queue, .int .i64 a.due, .int .i64 a.retry, .int .i64 a.ref, .int .i64 a.born, .string a.topic, .string a.tag, .string a.body, va] := by rw [hW0]; exact (Box.new w _).alloc _
  have hbb : Box W0 (w.heap.size + 1) #[.int .i64 b.kind, .int .i64 b.queue, .int .i64 b.due, .int .i64 b.retry, .int .i64 b.ref, .int .i64 b.born, .string b.topic, .string b.tag, .string b.body, vb] := by
    have := Box.new (w.alloc (.cells (a.cells va) 24)) (b.cells vb)
    rw [World.size_alloc] at this
    rw [hW0]
    exact this
  obtain ⟨z1, h1⟩ : ∃ z, decide (a.nums = b.nums) = z := ⟨_, rfl⟩
  obtain ⟨z2, h2⟩ : ∃ z, decide (a.texts = b.texts) = z := ⟨_, rfl⟩
  unfold sameB at hx
  rw [h1, h2] at hx
  have HNA := Lib.hid fun W => numbers_any a va W
  have HNB := Lib.hid fun W => numbers_any b vb W
  have HTA : Hid (∀ W, Below W0.heap.size W0 W → Calls Tryz.prog 36 #[a.val va] W (TextsTo a W)) := Lib.hid fun W hbl => texts_any a va W (ha.below (hl0.trans (hbl.mono hl0.size)) (Nat.le_refl _)) na
  have HTB : Hid (∀ W, Below W0.heap.size W0 W → Calls Tryz.prog 36 #[b.val vb] W (TextsTo b W)) := Lib.hid fun W hbl => texts_any b vb W (hb.below (hl0.trans (hbl.mono hl0.size)) (Nat.le_refl _)) nb
  have HEI := Lib.hid fun (W : World) v u (hv : Ints W v a.nums) (hu : Ints W u b.nums) => h1 ▸ eqi_any v u a.nums b.nums W hv hu (by decide : (6 : Nat) ≤ 1000000)
  have HES := Lib.hid fun (W : World) v u (hv : Strs W 0 v a.texts) (hu : Strs W 0 u b.texts) => h2 ▸ eqs_any v u a.texts b.texts W hv hu (by unfold MsgM.texts; simp only [List.length_cons]; omega)
  have HBL := Lib.hid (Below.refl W0.heap.size W0)
  have HBA := Lib.hid hba
  have HBB := Lib.hid hbb
  have HL0 := Lib.hid hl0
  have HW0 := Lib.hid hW0
  have k0 := hba.cell
  have k1 := hbb.cell
  clear hl0 hba hbb hW0 h1 h2 ha hb
  unfold MsgM.val MsgM.cells at *
  cases z1
  · obtain rfl : false = x := by simpa using hx
    go_enter Tryz.func13, Tryz.ntmps13
    go_wp2_with fail
    rw [← HW0.out]
    go_region_with (first
        | (go_at_call 20
           ((with_reducible refine (HNA.out _).mono ?_))
           rintro e w5 ⟨v5, rfl, hv5, hb5⟩
           refine below_then3 (a := W0) hb5 ?_ ?_
           · repeat (first | exact HBL.out | with_reducible refine below_alloc ?_ _ | with_reducible refine below_drewN ?_ _ | with_reducible refine below_drew2 ?_)
           intro hbl
           have k0 := (HBA.out.below hbl HBA.out.lt).cell
           have k1 := (HBB.out.below hbl HBB.out.lt).cell
           try (have HVB := Lib.hid (ints_thru HVB.out (by repeat (first | exact Below.refl _ _ | with_reducible refine below_drewN ?_ _ | with_reducible refine below_drew2 ?_)) hb5))
           have HVA := Lib.hid hv5
           have HBL := Lib.hid hbl
           clear hb5 hbl hv5)
        | (go_at_call 20
           ((with_reducible refine (HNB.out _).mono ?_))
           rintro e w6 ⟨v6, rfl, hv6, hb6⟩
           refine below_then3 (a := W0) hb6 ?_ ?_
           · repeat (first | exact HBL.out | with_reducible refine below_alloc ?_ _ | with_reducible refine below_drewN ?_ _ | with_reducible refine below_drew2 ?_)
           intro hbl
           have k0 := (HBA.out.below hbl HBA.out.lt).cell
           have k1 := (HBB.out.below hbl HBB.out.lt).cell
           try (have HVA := Lib.hid (ints_thru HVA.out (by repeat (first | exact Below.refl _ _ | with_reducible refine below_drewN ?_ _ | with_reducible refine below_drew2 ?_)) hb6))
           have HVB := Lib.hid hv6
           have HBL := Lib.hid hbl
           clear hb6 hbl hv6)
        | (go_at_call 34
           ((with_reducible refine (HEI.out _ _ _ ?_ ?_).mono ?_))
           · repeat (first | exact HVA.out)
           · repeat (first | exact HVB.out)
           rintro e w7 ⟨rfl, q7, rfl⟩))
    all_goals
      go_wp2_with fail
      go_ret
      exact ⟨rfl, by first | exact HL0.out.trans (HBL.out.mono HL0.out.size) | exact (HL0.out.trans (HBL.out.mono HL0.out.size)).drewN _ | exact below_drewN (HL0.out.trans (HBL.out.mono HL0.out.size)) _ | exact (HL0.out.trans (HBL.out.mono HL0.out.size)).drew⟩
  · obtain rfl : z2 = x := by simpa using hx
    go_enter Tryz.func13, Tryz.ntmps13
    go_wp2_with fail
    rw [← HW0.out]
    go_region_held3 (fun w' => (∀ i, w'.cell? ⟨w.heap.size, i, none⟩ = (#[.int .i64 a.kind, .int .i64 a.queue, .int .i64 a.due, .int .i64 a.retry, .int .i64 a.ref, .int .i64 a.born, .string a.topic, .string a.tag, .string a.body, va] : Array Value)[i]?) ∧ (∀ i, w'.cell? ⟨w.heap.size + 1, i, none⟩ = (#[.int .i64 b.kind, .int .i64 b.queue, .int .i64 b.due, .int .i64 b.retry, .int .i64 b.ref, .int .i64 b.born, .string b.topic, .string b.tag, .string b.body, vb] : Array Value)[i]?))
      (first | exact ⟨k0, k1⟩ | go_keep)
      (first
        | (go_at_call 20
           ((with_reducible refine (HNA.out _).mono ?_))
           rintro e w5 ⟨v5, rfl, hv5, hb5⟩
           refine below_then3 (a := W0) hb5 ?_ ?_
           · repeat (first | exact HBL.out | with_reducible refine below_alloc ?_ _ | with_reducible refine below_drewN ?_ _ | with_reducible refine below_drew2 ?_)
           intro hbl
           have k0 := (HBA.out.below hbl HBA.out.lt).cell
           have k1 := (HBB.out.below hbl HBB.out.lt).cell
           try (have HVB := Lib.hid (ints_thru HVB.out (by repeat (first | exact Below.refl _ _ | with_reducible refine below_drewN ?_ _ | with_reducible refine below_drew2 ?_)) hb5))
           have HVA := Lib.hid hv5
           have HBL := Lib.hid hbl
           clear hb5 hbl hv5)
        | (go_at_call 20
           ((with_reducible refine (HNB.out _).mono ?_))
           rintro e w6 ⟨v6, rfl, hv6, hb6⟩
           refine below_then3 (a := W0) hb6 ?_ ?_
           · repeat (first | exact HBL.out | with_reducible refine below_alloc ?_ _ | with_reducible refine below_drewN ?_ _ | with_reducible refine below_drew2 ?_)
           intro hbl
           have k0 := (HBA.out.below hbl HBA.out.lt).cell
           have k1 := (HBB.out.below hbl HBB.out.lt).cell
           try (have HVA := Lib.hid (ints_thru HVA.out (by repeat (first | exact Below.refl _ _ | with_reducible refine below_drewN ?_ _ | with_reducible refine below_drew2 ?_)) hb6))
           have HVB := Lib.hid hv6
           have HBL := Lib.hid hbl
           clear hb6 hbl hv6)
        | (go_at_call 34
           ((with_reducible refine (HEI.out _ _ _ ?_ ?_).mono ?_))
           · repeat (first | exact HVA.out)
           · repeat (first | exact HVB.out)
           rintro e w7 ⟨rfl, q7, rfl⟩)
        | (go_at_call 36
           ((with_reducible refine (HTA.out _ ?_).mono ?_))
           · repeat (first | exact HBL.out | with_reducible refine below_alloc ?_ _ | with_reducible refine below_drewN ?_ _ | with_reducible refine below_drew2 ?_)
           rintro e w8 ⟨v8, rfl, hv8, hb8⟩
           refine below_then3 (a := W0) hb8 ?_ ?_
           · repeat (first | exact HBL.out | with_reducible refine below_alloc ?_ _ | with_reducible refine below_drewN ?_ _ | with_reducible refine below_drew2 ?_)
           intro hbl
           have k0 := (HBA.out.below hbl HBA.out.lt).cell
           have k1 := (HBB.out.below hbl HBB.out.lt).cell
           try (have HUB := Lib.hid (strs_thru HUB.out (by repeat (first | exact Below.refl _ _ | with_reducible refine below_drewN ?_ _ | with_reducible refine below_drew2 ?_)) hb8))
           have HUA := Lib.hid hv8
           have HBL := Lib.hid hbl
           clear hb8 hbl hv8)
        | (go_at_call 36
           ((with_reducible refine (HTB.out _ ?_).mono ?_))
           · repeat (first | exact HBL.out | with_reducible refine below_alloc ?_ _ | with_reducible refine below_drewN ?_ _ | with_reducible refine below_drew2 ?_)
           rintro e w9 ⟨v9, rfl, hv9, hb9⟩
           refine below_then3 (a := W0) hb9 ?_ ?_
           · repeat (first | exact HBL.out | with_reducible refine below_alloc ?_ _ | with_reducible refine below_drewN ?_ _ | with_reducible refine below_drew2 ?_)
           intro hbl
           have k0 := (HBA.out.below hbl HBA.out.lt).cell
           have k1 := (HBB.out.below hbl HBB.out.lt).cell
           try (have HUA := Lib.hid (strs_thru HUA.out (by repeat (first | exact Below.refl _ _ | with_reducible refine below_drewN ?_ _ | with_reducible refine below_drew2 ?_)) hb9))
           have HUB := Lib.hid hv9
           have HBL := Lib.hid hbl
           clear hb9 hbl hv9)
        | (go_at_call 35
           ((with_reducible refine (HES.out _ _ _ ?_ ?_).mono ?_))
           · repeat (first | exact HUA.out)
           · repeat (first | exact HUB.out)
           rintro e w10 ⟨rfl, q10, rfl⟩))
    all_goals
      go_wp2_with fail
      go_ret
      exact ⟨rfl, by first | exact HL0.out.trans (HBL.out.mono HL0.out.size) | exact below_drewN (HL0.out.trans (HBL.out.mono HL0.out.size)) _⟩
end Go.Proofs.YtelpkniockhjgaaGreat
