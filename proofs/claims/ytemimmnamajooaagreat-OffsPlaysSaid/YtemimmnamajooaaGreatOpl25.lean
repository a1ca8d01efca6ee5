/- A part. -/
import Derived.Deep.RegionHeld3
import Derived.Test.YtemimmnamajooaaGreatOpl23
set_option linter.unusedVariables false
set_option linter.unusedSimpArgs false
namespace Go.Proofs.YtemimmnamajooaaGreat
open Go.RowKit Go.Deep
theorem qbl_eq : ∀ (x y : List UInt8), Op.bytesLess x y = decide (x < y)
  | [], [] => by simp [Op.bytesLess]
  | _ :: _, [] => by simp [Op.bytesLess]
  | [], _ :: _ => by simp [Op.bytesLess]
  | a :: x, b :: y => by
    rw [Op.bytesLess, qbl_eq x y]
    simp only [List.cons_lt_cons_iff]
    by_cases h1 : a < b <;> by_cases h2 : a = b <;> by_cases h3 : x < y <;> simp [h1, h2, h3]
theorem isnan_str (a : ByteArray) (w : World) : Calls Tryz.prog 112 #[.string a] w fun e w' => e = .returned (.bool false) ∧ w = w' := by
  go_enter Tryz.func112, Tryz.ntmps112
  go_wp2_with fail
  go_ret
  exact ⟨by simp, rfl⟩
def cmpB (a b : ByteArray) : Int := if a.toList < b.toList then -1 else if b.toList < a.toList then 1 else 0
theorem blt_tri {a b : ByteArray} (h1 : ¬ a.toList < b.toList) (h2 : ¬ b.toList < a.toList) : a.toList = b.toList := List.le_antisymm (List.not_lt.1 h2) (List.not_lt.1 h1)
set_option maxRecDepth 100000 in
theorem compare_str (a b : ByteArray) (w : World) : Calls Tryz.prog 95 #[.string a, .string b] w fun e w' => e = .returned (.int .i64 (cmpB a b)) ∧ w = w' := by
  have e1 : Op.bytesLess a.toList b.toList = decide (a.toList < b.toList) := qbl_eq _ _
  by_cases h1 : a.toList < b.toList
  · have hr : cmpB a b = -1 := by unfold cmpB; rw [if_pos h1]
    rw [hr]
    simp only [h1, decide_true] at e1
    clear hr h1
    go_enter Tryz.func95, Tryz.ntmps95
    go_wp2_with (go_at_call 112; refine (isnan_str _ _).mono ?_; rintro e w' ⟨rfl, rfl⟩)
    all_goals first | (exfalso; simp_all; done) | (go_ret; exact ⟨rfl, rfl⟩)
  · by_cases h2 : b.toList < a.toList
    · have hr : cmpB a b = 1 := by unfold cmpB; rw [if_neg h1, if_pos h2]
      have e2 : (a.toList == b.toList) = false := by
        rw [beq_eq_false_iff_ne]
        intro hx
        rw [hx] at h2
        exact List.lt_irrefl _ h2
      rw [hr]
      simp only [h1, decide_false] at e1
      clear hr h1 h2
      go_enter Tryz.func95, Tryz.ntmps95
      go_wp2_with (go_at_call 112; refine (isnan_str _ _).mono ?_; rintro e w' ⟨rfl, rfl⟩)
      all_goals first | (exfalso; simp_all; done) | (go_ret; exact ⟨rfl, rfl⟩)
    · have hr : cmpB a b = 0 := by unfold cmpB; rw [if_neg h1, if_neg h2]
      have e2 : (a.toList == b.toList) = true := by rw [blt_tri h1 h2]; simp
      rw [hr]
      simp only [h1, decide_false] at e1
      clear hr h1 h2
      go_enter Tryz.func95, Tryz.ntmps95
      go_wp2_with (go_at_call 112; refine (isnan_str _ _).mono ?_; rintro e w' ⟨rfl, rfl⟩)
      all_goals first | (exfalso; simp_all; done) | (go_ret; exact ⟨rfl, rfl⟩)
theorem byteList_eq {a b : ByteArray} (h : a.toList = b.toList) : a = b := by
  rw [Lib.toList_data, Lib.toList_data] at h
  obtain ⟨⟨a⟩⟩ := a
  obtain ⟨⟨b⟩⟩ := b
  have h : a = b := h
  rw [h]
theorem cmpB_neg {a b : ByteArray} : cmpB a b < 0 ↔ a.toList < b.toList := by
  unfold cmpB
  by_cases h1 : a.toList < b.toList
  · simp [h1]
  · by_cases h2 : b.toList < a.toList <;> simp [h1, h2]
theorem cmpB_zero {a b : ByteArray} : cmpB a b = 0 ↔ a = b := by
  unfold cmpB
  by_cases h1 : a.toList < b.toList
  · simp only [h1, if_true]
    constructor
    · intro h; omega
    · rintro rfl; exact absurd h1 (List.lt_irrefl _)
  · by_cases h2 : b.toList < a.toList
    · simp only [h1, h2, if_true, if_false]
      constructor
      · intro h; omega
      · rintro rfl; exact absurd h2 (List.lt_irrefl _)
    · simp only [h1, h2, if_false, true_iff]
      exact byteList_eq (blt_tri h1 h2)
theorem below_drew0 {B : Nat} {a w : World} (h : Below B a w) : Below B a w.drew := h.drew
def orN (x y : Int) : Int := if x = 0 then y else x
set_option maxRecDepth 100000 in
theorem or_three (b : Nat) (x y z : Int) (w : World) (h0 : w.cell? ⟨b, 0, none⟩ = some (.int .i64 x)) (h1 : w.cell? ⟨b, 1, none⟩ = some (.int .i64 y)) (h2 : w.cell? ⟨b, 2, none⟩ = some (.int .i64 z)) :
    Calls Tryz.prog 94 #[.slice (some ⟨b, 0, none⟩) 3 3] w fun e w' => e = .returned (.int .i64 (orN x (orN y z))) ∧ ∃ q, w' = w.drewN q := by
  obtain ⟨r, hr⟩ : ∃ r, r = orN x (orN y z) := ⟨_, rfl⟩
  rw [← hr]
  have HR := Lib.hid hr
  clear hr
  go_enter Tryz.func94, Tryz.ntmps94
  go_wp2_with fail
  go_loopw [8] (fun i wr => ∃ k : Nat, k ≤ 3 ∧ i = .int .i64 (k : Int) ∧ (0 < k → x = 0) ∧ (1 < k → y = 0) ∧ (2 < k → z = 0) ∧ ∃ q, wr = w.drewN q) (fun i _ => 3 - (intOf i).toNat)
  case atStart => exact ⟨0, by omega, rfl, fun h => absurd h (by omega), fun h => absurd h (by omega), fun h => absurd h (by omega), 0, rfl⟩
  case round =>
    obtain ⟨k, hk, rfl, hx, hy, hz, q, rfl⟩ := hrel
    have hk3 : k = 0 ∨ k = 1 ∨ k = 2 ∨ k = 3 := by omega
    have e0 : (w.drewN q).cell? ⟨b, 0, none⟩ = some (.int .i64 x) := h0
    have e1 : (w.drewN q).cell? ⟨b, 1, none⟩ = some (.int .i64 y) := h1
    have e2 : (w.drewN q).cell? ⟨b, 2, none⟩ = some (.int .i64 z) := h2
    clear h0 h1 h2
    rcases hk3 with rfl | rfl | rfl | rfl
    · by_cases h : x = 0
      · subst h
        go_wp2_with fail
        exact ⟨⟨1, by omega, by go_num, (by first | exact fun _ => trivial | exact fun _ => rfl), fun h => absurd h (by omega), fun h => absurd h (by omega), _, rfl⟩, by simp [intOf]⟩
      · go_wp2_with fail
        go_ret
        exact ⟨ret_of (by rw [HR.out]; unfold orN; rw [if_neg h]), _, rfl⟩
    · by_cases h : y = 0
      · subst h
        go_wp2_with fail
        exact ⟨⟨2, by omega, by go_num, fun _ => hx (by omega), (by first | exact fun _ => trivial | exact fun _ => rfl), fun h => absurd h (by omega), _, rfl⟩, by simp [intOf]⟩
      · go_wp2_with fail
        go_ret
        exact ⟨ret_of (by rw [HR.out]; unfold orN; rw [if_pos (hx (by omega)), if_neg h]), _, rfl⟩
    · by_cases h : z = 0
      · subst h
        go_wp2_with fail
        exact ⟨⟨3, by omega, by go_num, fun _ => hx (by omega), fun _ => hy (by omega), (by first | exact fun _ => trivial | exact fun _ => rfl), _, rfl⟩, by simp [intOf]⟩
      · go_wp2_with fail
        go_ret
        exact ⟨ret_of (by rw [HR.out]; unfold orN; rw [if_pos (hx (by omega)), if_pos (hy (by omega))]), _, rfl⟩
    · go_wp2_with fail
      go_ret
      exact ⟨ret_of (by rw [HR.out]; unfold orN; rw [if_pos (hx (by omega)), if_pos (hy (by omega)), hz (by omega)]), _, rfl⟩
structure OfM where
  g : ByteArray
  t : ByteArray
  q : Int
  a : Int
def oenc (x : OfM) : List Value := [.string x.g, .string x.t, .int .i64 x.q, .int .i64 x.a]
theorem oenc_len (x : OfM) : (oenc x).length = 4 := rfl
def sameK (a b : OfM) : Prop := a.g = b.g ∧ a.t = b.t ∧ a.q = b.q
def oOrd (a b : OfM) : Int := orN (cmpB a.g b.g) (orN (cmpB a.t b.t) (cmpI a.q b.q))
def oLess (a b : OfM) : Prop := a.g.toList < b.g.toList ∨ (a.g = b.g ∧ (a.t.toList < b.t.toList ∨ (a.t = b.t ∧ a.q < b.q)))
theorem cmpI_neg {a b : Int} : cmpI a b < 0 ↔ a < b := by
  unfold cmpI
  by_cases h1 : a < b
  · simp [h1]
  · by_cases h2 : b < a <;> simp [h1, h2]
theorem cmpI_zero {a b : Int} : cmpI a b = 0 ↔ a = b := by
  unfold cmpI
  by_cases h1 : a < b
  · simp only [h1, if_true]; constructor <;> intro h <;> omega
  · by_cases h2 : b < a
    · simp only [h1, h2, if_true, if_false]; constructor <;> intro h <;> omega
    · simp only [h1, h2, if_false, true_iff]; omega
theorem orN_zero {x y : Int} : orN x y = 0 ↔ x = 0 ∧ y = 0 := by
  unfold orN
  by_cases h : x = 0
  · rw [if_pos h]; exact ⟨fun e => ⟨h, e⟩, fun e => e.2⟩
  · rw [if_neg h]; exact ⟨fun e => absurd e h, fun e => e.1⟩
theorem orN_neg {x y : Int} : orN x y < 0 ↔ x < 0 ∨ (x = 0 ∧ y < 0) := by
  unfold orN
  by_cases h : x = 0
  · rw [if_pos h]; constructor
    · intro e; exact .inr ⟨h, e⟩
    · rintro (e | e)
      · omega
      · exact e.2
  · rw [if_neg h]; constructor
    · intro e; exact .inl e
    · rintro (e | e)
      · exact e
      · exact absurd e.1 h
theorem oOrd_zero {a b : OfM} : oOrd a b = 0 ↔ sameK a b := by
  unfold oOrd sameK
  rw [orN_zero, orN_zero, cmpB_zero, cmpB_zero, cmpI_zero]
theorem oOrd_neg {a b : OfM} : oOrd a b < 0 ↔ oLess a b := by
  unfold oOrd oLess
  rw [orN_neg, orN_neg, cmpB_zero, cmpB_zero, cmpB_neg, cmpB_neg, cmpI_neg]
theorem oLess_irrefl (a : OfM) : ¬ oLess a a := by
  rintro (h | ⟨_, h | ⟨_, h⟩⟩)
  · exact List.lt_irrefl _ h
  · exact List.lt_irrefl _ h
  · omega
theorem oLess_trans {a b c : OfM} (h1 : oLess a b) (h2 : oLess b c) : oLess a c := by
  rcases h1 with h1 | ⟨e1, h1⟩
  · rcases h2 with h2 | ⟨e2, h2⟩
    · exact .inl (List.lt_trans h1 h2)
    · rw [e2] at h1; exact .inl h1
  · rcases h2 with h2 | ⟨e2, h2⟩
    · rw [← e1] at h2; exact .inl h2
    · refine .inr ⟨e1.trans e2, ?_⟩
      rcases h1 with h1 | ⟨f1, h1⟩
      · rcases h2 with h2 | ⟨f2, h2⟩
        · exact .inl (List.lt_trans h1 h2)
        · rw [f2] at h1; exact .inl h1
      · rcases h2 with h2 | ⟨f2, h2⟩
        · rw [← f1] at h2; exact .inl h2
        · exact .inr ⟨f1.trans f2, by omega⟩
theorem oLess_tri (a b : OfM) : oLess a b ∨ sameK a b ∨ oLess b a := by
  by_cases h1 : a.g.toList < b.g.toList
  · exact .inl (.inl h1)
  · by_cases h2 : b.g.toList < a.g.toList
    · exact .inr (.inr (.inl h2))
    · have h3 := byteList_eq (blt_tri h1 h2)
      by_cases k1 : a.t.toList < b.t.toList
      · exact .inl (.inr ⟨h3, .inl k1⟩)
      · by_cases k2 : b.t.toList < a.t.toList
        · exact .inr (.inr (.inr ⟨h3.symm, .inl k2⟩))
        · have k3 := byteList_eq (blt_tri k1 k2)
          rcases Int.lt_trichotomy a.q b.q with h | h | h
          · exact .inl (.inr ⟨h3, .inr ⟨k3, h⟩⟩)
          · exact .inr (.inl ⟨h3, k3, h⟩)
          · exact .inr (.inr (.inr ⟨h3.symm, .inr ⟨k3.symm, h⟩⟩))
theorem oLess_same {a b c : OfM} (h : sameK a b) : oLess a c ↔ oLess b c := by
  obtain ⟨h1, h2, h3⟩ := h
  unfold oLess
  rw [h1, h2, h3]
theorem oLess_same' {a b c : OfM} (h : sameK a b) : oLess c a ↔ oLess c b := by
  obtain ⟨h1, h2, h3⟩ := h
  unfold oLess
  rw [h1, h2, h3]
theorem sameK.symm {a b : OfM} (h : sameK a b) : sameK b a := ⟨h.1.symm, h.2.1.symm, h.2.2.symm⟩
theorem sameK.trans {a b c : OfM} (h : sameK a b) (h' : sameK b c) : sameK a c := ⟨h.1.trans h'.1, h.2.1.trans h'.2.1, h.2.2.trans h'.2.2⟩
theorem sameK.refl (a : OfM) : sameK a a := ⟨rfl, rfl, rfl⟩
theorem oLess_ne {a b : OfM} (h : oLess a b) : ¬ sameK a b := fun h2 => oLess_irrefl b ((oLess_same h2).1 h)
set_option maxHeartbeats 2000000 in
set_option maxRecDepth 100000 in
theorem order_any (a b : OfM) (W : World) : Calls Tryz.prog 63 #[.agg (oenc a).toArray, .agg (oenc b).toArray] W fun e w' => e = .returned (.int .i64 (oOrd a b)) ∧ Below W.heap.size W w' := by
  obtain ⟨ga, ta, qa, aa⟩ := a
  obtain ⟨gb, tb, qb, ab⟩ := b
  unfold oenc oOrd
  dsimp only
  have hc := fun (x y : ByteArray) W' => compare_str x y W'
  have hi := fun W' => compare_any qa qb W'
  obtain ⟨x, hx⟩ : ∃ x, x = cmpB ga gb := ⟨_, rfl⟩
  obtain ⟨y, hy⟩ : ∃ y, y = cmpB ta tb := ⟨_, rfl⟩
  obtain ⟨z, hz⟩ : ∃ z, z = cmpI qa qb := ⟨_, rfl⟩
  have hcx := fun W' => hc ga gb W'
  have hcy := fun W' => hc ta tb W'
  rw [← hx] at hcx ⊢
  rw [← hy] at hcy ⊢
  rw [← hz] at hi ⊢
  have ho := fun b W' => or_three b x y z W'
  obtain ⟨r, hr⟩ : ∃ r, r = orN x (orN y z) := ⟨_, rfl⟩
  rw [← hr] at ho ⊢
  have HX := Lib.hid hcx
  have HY := Lib.hid hcy
  have HI := Lib.hid hi
  have HO := Lib.hid ho
  clear hx hy hz hr hc hcx hcy hi ho
  go_enter Tryz.func63, Tryz.ntmps63
  go_upto_region 1 with fail
  obtain ⟨W1, hW1⟩ : ∃ W1, W1 = (W.alloc (.cells #[.string ga, .string ta, .int .i64 qa, .int .i64 aa] 32)).alloc (.cells #[.string gb, .string tb, .int .i64 qb, .int .i64 ab] 32) := ⟨_, rfl⟩
  have k0 : W1.cell? ⟨W.heap.size, 0, none⟩ = some (.string ga) := by rw [hW1]; simp
  have k1 : W1.cell? ⟨W.heap.size, 1, none⟩ = some (.string ta) := by rw [hW1]; simp
  have k2 : W1.cell? ⟨W.heap.size, 2, none⟩ = some (.int .i64 qa) := by rw [hW1]; simp
  have k3 : W1.cell? ⟨W.heap.size + 1, 0, none⟩ = some (.string gb) := by rw [hW1]; simp
  have k4 : W1.cell? ⟨W.heap.size + 1, 1, none⟩ = some (.string tb) := by rw [hW1]; simp
  have k5 : W1.cell? ⟨W.heap.size + 1, 2, none⟩ = some (.int .i64 qb) := by rw [hW1]; simp
  have HG : Hid (Below W.heap.size W W1) := Lib.hid (by rw [hW1]; exact ((Below.refl _ W).alloc (Nat.le_refl _) _).alloc (by rw [World.size_alloc]; omega) _)
  try simp only [World.size_alloc]
  rw [← hW1]
  clear hW1
  go_region_held3 (fun w' => w'.cell? ⟨W.heap.size, 0, none⟩ = some (.string ga) ∧ w'.cell? ⟨W.heap.size, 1, none⟩ = some (.string ta) ∧ w'.cell? ⟨W.heap.size, 2, none⟩ = some (.int .i64 qa) ∧ w'.cell? ⟨W.heap.size + 1, 0, none⟩ = some (.string gb) ∧ w'.cell? ⟨W.heap.size + 1, 1, none⟩ = some (.string tb) ∧ w'.cell? ⟨W.heap.size + 1, 2, none⟩ = some (.int .i64 qb))
    (first | exact ⟨k0, k1, k2, k3, k4, k5⟩ | go_keep)
    (first
      | (go_at_call 95
         with_reducible refine (HX.out _).mono ?_
         rintro e w2 ⟨rfl, rfl⟩)
      | (go_at_call 95
         with_reducible refine (HY.out _).mono ?_
         rintro e w2 ⟨rfl, rfl⟩)
      | (go_at_call 80
         refine (HI.out _).mono ?_
         rintro e w2 ⟨rfl, rfl⟩)
      | (go_at_call 94
         refine (HO.out _ _ ?_ ?_ ?_).mono ?_
         · simp
         · simp
         · simp
         rintro e w2 ⟨rfl, y5, rfl⟩))
  all_goals
    go_wp2_with fail
    go_ret
    exact ⟨rfl, show Below W.heap.size W _ by
      repeat (first | exact HG.out | with_reducible refine below_drewN ?_ _ | with_reducible refine below_drew0 ?_ | with_reducible refine below_alloc ?_ _)⟩
end Go.Proofs.YtemimmnamajooaaGreat
