/- A part. -/
import Derived.Deep.RegionHeld3
import Derived.Test.YtdnhgodfmjapmaaGreatDoorDon2
import Derived.Test.YtdnhgodfmjapmaaGreatDoorDon17
import Derived.Test.YtdnhgodfmjapmaaGreatDoorDon21
import Derived.Test.YtdnhgodfmjapmaaGreatDoorDon27
set_option linter.unusedVariables false
set_option linter.unusedSimpArgs false
namespace Go.Proofs.YtdnhgodfmjapmaaGreatDoor
open Go.RowKit Go.Deep
open Go.Sort (grow putRow Holds putCells PermIn SortedIn)
instance : Inhabited QK := ⟨⟨(⟨#[]⟩, 0), by unfold maxLen; decide, by decide⟩⟩
def qenc (z : QK) : List Value := [.string z.1.1, .int .i64 z.1.2]
theorem qenc_length (z : QK) : (qenc z).length = 2 := rfl
theorem qenc_one (z : QK) : ∀ v ∈ qenc z, v.oneCell' = true := by
  intro v hv
  simp [qenc] at hv
  rcases hv with rfl | rfl <;> rfl
def IdsAt (w : World) (base : Nat) (v : Value) (l : List QK) : Prop := w.ownsRow base 98 2 v l.length (l.flatMap qenc)
theorem qflat_get {α : Type} {enc : α → List Value} {k : Nat} (hk : ∀ x, (enc x).length = k) : ∀ (l : List α) (i j : Nat), j < k → (l.flatMap enc)[i * k + j]? = (l[i]?).bind fun x => (enc x)[j]?
  | [], i, j, _ => by simp
  | x :: l, 0, j, hj => by
    rw [List.flatMap_cons, List.getElem?_append, hk, if_pos (by omega), Nat.zero_mul, Nat.zero_add]
    simp
  | x :: l, i + 1, j, hj => by
    rw [List.flatMap_cons, List.getElem?_append, hk, if_neg (by rw [Nat.add_mul]; omega), show (i + 1) * k + j - k = i * k + j by rw [Nat.add_mul]; omega, qflat_get hk l i j hj]
    simp
theorem qflat_length (l : List QK) : (l.flatMap qenc).length = l.length * 2 := by
  induction l with
  | nil => rfl
  | cons x l ih => rw [List.flatMap_cons, List.length_append, ih, qenc_length, List.length_cons]; omega
theorem qflatK_list (l : List QK) : (Go.Sort.flatK qenc 2 l.toArray).toList = l.flatMap qenc := by
  apply List.ext_getElem?
  intro t
  have hlen := qflat_length l
  by_cases ht : t < l.length * 2
  · have e1 : t = t / 2 * 2 + t % 2 := by omega
    have h4 : t / 2 < l.length := by omega
    rw [e1, qflat_get qenc_length l (t / 2) (t % 2) (by omega), ← e1, List.getElem?_eq_getElem h4]
    rw [Array.getElem?_toList]
    simp [Go.Sort.flatK, ht, h4]
    rw [List.getElem?_eq_getElem (by rw [qenc_length]; omega)]
    simp [getElem!_pos, qenc_length, Nat.mod_lt]
  · rw [List.getElem?_eq_none (by rw [Array.length_toList, Go.Sort.size_flatK]; simpa using Nat.le_of_not_lt ht), List.getElem?_eq_none (by omega)]
theorem qbl_eq : ∀ (x y : List UInt8), Op.bytesLess x y = decide (x < y)
  | [], [] => by simp [Op.bytesLess]
  | _ :: _, [] => by simp [Op.bytesLess]
  | [], _ :: _ => by simp [Op.bytesLess]
  | a :: x, b :: y => by
    rw [Op.bytesLess, qbl_eq x y]
    simp only [List.cons_lt_cons_iff]
    by_cases h1 : a < b <;> by_cases h2 : a = b <;> by_cases h3 : x < y <;> simp [h1, h2, h3]
theorem isnan_int (a : Int) (w : World) : Calls Tryz.prog 114 #[.int .i64 a] w fun e w' => e = .returned (.bool false) ∧ w = w' := by
  go_enter Tryz.func114, Tryz.ntmps114
  go_wp2_with fail
  go_ret
  exact ⟨by simp, rfl⟩
theorem isnan_str (a : ByteArray) (w : World) : Calls Tryz.prog 127 #[.string a] w fun e w' => e = .returned (.bool false) ∧ w = w' := by
  go_enter Tryz.func127, Tryz.ntmps127
  go_wp2_with fail
  go_ret
  exact ⟨by simp, rfl⟩
def cmpN (a b : Int) : Int := if a < b then -1 else if b < a then 1 else 0
def cmpB (a b : ByteArray) : Int := if a.toList < b.toList then -1 else if b.toList < a.toList then 1 else 0
set_option maxRecDepth 100000 in
theorem compare_int (a b : Int) (w : World) : Calls Tryz.prog 84 #[.int .i64 a, .int .i64 b] w fun e w' => e = .returned (.int .i64 (cmpN a b)) ∧ w = w' := by
  by_cases h1 : a < b
  · go_enter Tryz.func84, Tryz.ntmps84
    go_wp2_with (go_at_call 114; refine (isnan_int _ _).mono ?_; rintro e w' ⟨rfl, rfl⟩)
    go_ret
    exact ⟨ret_of (by unfold cmpN; rw [if_pos (by omega)]), rfl⟩
  · by_cases h2 : b < a
    · go_enter Tryz.func84, Tryz.ntmps84
      go_wp2_with (go_at_call 114; refine (isnan_int _ _).mono ?_; rintro e w' ⟨rfl, rfl⟩)
      go_ret
      exact ⟨ret_of (by unfold cmpN; rw [if_neg (by omega), if_pos (by omega)]), rfl⟩
    · go_enter Tryz.func84, Tryz.ntmps84
      go_wp2_with (go_at_call 114; refine (isnan_int _ _).mono ?_; rintro e w' ⟨rfl, rfl⟩)
      go_ret
      exact ⟨ret_of (by unfold cmpN; rw [if_neg (by omega), if_neg (by omega)]), rfl⟩
theorem blt_tri {a b : ByteArray} (h1 : ¬ a.toList < b.toList) (h2 : ¬ b.toList < a.toList) : a.toList = b.toList := List.le_antisymm (List.not_lt.1 h2) (List.not_lt.1 h1)
set_option maxRecDepth 100000 in
theorem compare_str (a b : ByteArray) (w : World) : Calls Tryz.prog 83 #[.string a, .string b] w fun e w' => e = .returned (.int .i64 (cmpB a b)) ∧ w = w' := by
  have e1 : Op.bytesLess a.toList b.toList = decide (a.toList < b.toList) := qbl_eq _ _
  by_cases h1 : a.toList < b.toList
  · have hr : cmpB a b = -1 := by unfold cmpB; rw [if_pos h1]
    rw [hr]
    simp only [h1, decide_true] at e1
    clear hr h1
    go_enter Tryz.func83, Tryz.ntmps83
    go_wp2_with (go_at_call 127; refine (isnan_str _ _).mono ?_; rintro e w' ⟨rfl, rfl⟩)
    all_goals first | (exfalso; simp_all; done) | (go_ret; exact ⟨rfl, rfl⟩)
  · by_cases h2 : b.toList < a.toList
    · have hr : cmpB a b = 1 := by unfold cmpB; rw [if_neg h1, if_pos h2]
      have e2 : (a.toList == b.toList) = false := by
        rw [beq_eq_false_iff_ne]
        intro hx
        rw [hx] at h2
        exact List.lt_irrefl _ h2
      rw [hr]
      simp only [h1, decide_false] at e1
      clear hr h1 h2
      go_enter Tryz.func83, Tryz.ntmps83
      go_wp2_with (go_at_call 127; refine (isnan_str _ _).mono ?_; rintro e w' ⟨rfl, rfl⟩)
      all_goals first | (exfalso; simp_all; done) | (go_ret; exact ⟨rfl, rfl⟩)
    · have hr : cmpB a b = 0 := by unfold cmpB; rw [if_neg h1, if_neg h2]
      have e2 : (a.toList == b.toList) = true := by rw [blt_tri h1 h2]; simp
      rw [hr]
      simp only [h1, decide_false] at e1
      clear hr h1 h2
      go_enter Tryz.func83, Tryz.ntmps83
      go_wp2_with (go_at_call 127; refine (isnan_str _ _).mono ?_; rintro e w' ⟨rfl, rfl⟩)
      all_goals first | (exfalso; simp_all; done) | (go_ret; exact ⟨rfl, rfl⟩)
def orN (x y : Int) : Int := if x = 0 then y else x
set_option maxRecDepth 100000 in
theorem or_two (b : Nat) (x y : Int) (w : World) (h0 : w.cell? ⟨b, 0, none⟩ = some (.int .i64 x)) (h1 : w.cell? ⟨b, 1, none⟩ = some (.int .i64 y)) :
    Calls Tryz.prog 82 #[.slice (some ⟨b, 0, none⟩) 2 2] w fun e w' => e = .returned (.int .i64 (orN x y)) ∧ ∃ q, w' = w.drewN q := by
  obtain ⟨r, hr⟩ : ∃ r, r = orN x y := ⟨_, rfl⟩
  rw [← hr]
  have HR := Lib.hid hr
  clear hr
  go_enter Tryz.func82, Tryz.ntmps82
  go_wp2_with fail
  go_loopw [8] (fun i wr => ∃ k : Nat, k ≤ 2 ∧ i = .int .i64 (k : Int) ∧ (0 < k → x = 0) ∧ (1 < k → y = 0) ∧ ∃ q, wr = w.drewN q) (fun i _ => 2 - (intOf i).toNat)
  case atStart => exact ⟨0, by omega, rfl, fun h => absurd h (by omega), fun h => absurd h (by omega), 0, rfl⟩
  case round =>
    obtain ⟨k, hk, rfl, hx, hy, q, rfl⟩ := hrel
    have hk3 : k = 0 ∨ k = 1 ∨ k = 2 := by omega
    have e0 : (w.drewN q).cell? ⟨b, 0, none⟩ = some (.int .i64 x) := h0
    have e1 : (w.drewN q).cell? ⟨b, 1, none⟩ = some (.int .i64 y) := h1
    clear h0 h1
    rcases hk3 with rfl | rfl | rfl
    · by_cases hz : x = 0
      · subst hz
        go_wp2_with fail
        exact ⟨⟨1, by omega, by go_num, (by first | exact fun _ => trivial | exact fun _ => rfl), fun h => absurd h (by omega), _, rfl⟩, by simp [intOf]⟩
      · go_wp2_with fail
        go_ret
        exact ⟨ret_of (by rw [HR.out]; unfold orN; rw [if_neg hz]), _, rfl⟩
    · by_cases hz : y = 0
      · subst hz
        go_wp2_with fail
        exact ⟨⟨2, by omega, by go_num, fun _ => hx (by omega), (by first | exact fun _ => trivial | exact fun _ => rfl), _, rfl⟩, by simp [intOf]⟩
      · go_wp2_with fail
        go_ret
        exact ⟨ret_of (by rw [HR.out]; unfold orN; rw [if_pos (hx (by omega))]), _, rfl⟩
    · go_wp2_with fail
      go_ret
      exact ⟨ret_of (by rw [HR.out]; unfold orN; rw [if_pos (hx (by omega)), hy (by omega)]), _, rfl⟩
def qOrd (a b : QK) : Int := orN (cmpB a.1.1 b.1.1) (cmpN a.1.2 b.1.2)
def Gr (w w' : World) : Prop := ∃ q os, w' = grow (w.drewN q) os
theorem Gr.refl (w : World) : Gr w w := ⟨0, #[], by simp [grow]; rfl⟩
theorem Gr.alloc {w w' : World} (h : Gr w w') (o : Obj) : Gr w (w'.alloc o) := by
  obtain ⟨q, os, rfl⟩ := h
  exact ⟨q, _, by rw [Go.Sort.alloc_eq_grow, Go.Sort.grow_grow]⟩
theorem Gr.drewN {w w' : World} (h : Gr w w') (k : Nat) : Gr w (w'.drewN k) := by
  obtain ⟨q, os, rfl⟩ := h
  exact ⟨q + k, os, by simp [World.drewN, grow, Nat.add_assoc]⟩
set_option maxHeartbeats 2000000 in
set_option maxRecDepth 100000 in
theorem qclosure_any (a b : QK) (W : World) : Calls Tryz.prog 81 #[.agg (qenc a).toArray, .agg (qenc b).toArray] W fun e w' => e = .returned (.int .i64 (qOrd a b)) ∧ ∃ q os', w' = grow (W.drewN q) os' := by
  obtain ⟨⟨ta, na⟩, a1, a2⟩ := a
  obtain ⟨⟨tb, nb⟩, b1, b2⟩ := b
  unfold qenc qOrd
  dsimp only
  clear a1 a2 b1 b2
  have hc := fun W' => compare_str ta tb W'
  have hi := fun W' => compare_int na nb W'
  obtain ⟨x, hx⟩ : ∃ x, x = cmpB ta tb := ⟨_, rfl⟩
  obtain ⟨y, hy⟩ : ∃ y, y = cmpN na nb := ⟨_, rfl⟩
  rw [← hx] at hc ⊢
  rw [← hy] at hi ⊢
  have ho := fun b W' => or_two b x y W'
  obtain ⟨r, hr⟩ : ∃ r, r = orN x y := ⟨_, rfl⟩
  rw [← hr] at ho ⊢
  have HC := Lib.hid hc
  have HI := Lib.hid hi
  have HO := Lib.hid ho
  clear hx hy hr hc hi ho
  go_enter Tryz.func81, Tryz.ntmps81
  go_upto_region 1 with fail
  obtain ⟨W1, hW1⟩ : ∃ W1, W1 = (W.alloc (.cells #[.string ta, .int .i64 na] 98)).alloc (.cells #[.string tb, .int .i64 nb] 98) := ⟨_, rfl⟩
  have k0 : W1.cell? ⟨W.heap.size, 0, none⟩ = some (.string ta) := by rw [hW1]; simp
  have k1 : W1.cell? ⟨W.heap.size, 1, none⟩ = some (.int .i64 na) := by rw [hW1]; simp
  have k2 : W1.cell? ⟨W.heap.size + 1, 0, none⟩ = some (.string tb) := by rw [hW1]; simp
  have k3 : W1.cell? ⟨W.heap.size + 1, 1, none⟩ = some (.int .i64 nb) := by rw [hW1]; simp
  have HG : Hid (Gr W W1) := Lib.hid (by rw [hW1]; exact ((Gr.refl W).alloc _).alloc _)
  try simp only [World.size_alloc]
  rw [← hW1]
  clear hW1
  go_region_held3 (fun w' => w'.cell? ⟨W.heap.size, 0, none⟩ = some (.string ta) ∧ w'.cell? ⟨W.heap.size, 1, none⟩ = some (.int .i64 na) ∧ w'.cell? ⟨W.heap.size + 1, 0, none⟩ = some (.string tb) ∧ w'.cell? ⟨W.heap.size + 1, 1, none⟩ = some (.int .i64 nb))
    (first | exact ⟨k0, k1, k2, k3⟩ | go_keep)
    (first
      | (go_at_call 83
         refine (HC.out _).mono ?_
         rintro e w2 ⟨rfl, rfl⟩)
      | (go_at_call 84
         refine (HI.out _).mono ?_
         rintro e w2 ⟨rfl, rfl⟩)
      | (go_at_call 82
         refine (HO.out _ _ ?_ ?_).mono ?_
         · simp
         · simp
         rintro e w2 ⟨rfl, y5, rfl⟩))
  all_goals
    go_wp2_with fail
    go_ret
    exact ⟨rfl, show Gr W _ by
      repeat (first | exact HG.out | with_reducible refine Gr.drewN ?_ _ | with_reducible refine Gr.drew ?_ | with_reducible refine Gr.alloc ?_ _)⟩
theorem byteList_eq {a b : ByteArray} (h : a.toList = b.toList) : a = b := by
  rw [Lib.toList_data, Lib.toList_data] at h
  obtain ⟨⟨a⟩⟩ := a
  obtain ⟨⟨b⟩⟩ := b
  have h : a = b := h
  rw [h]
def qLess (a b : QK) : Prop := a.1.1.toList < b.1.1.toList ∨ (a.1.1 = b.1.1 ∧ a.1.2 < b.1.2)
theorem cmpB_neg {a b : ByteArray} : cmpB a b < 0 ↔ a.toList < b.toList := by
  unfold cmpB
  by_cases h1 : a.toList < b.toList
  · simp [h1]
  · by_cases h2 : b.toList < a.toList <;> simp [h1, h2]
theorem cmpB_zero {a b : ByteArray} : cmpB a b = 0 ↔ a = b := by
  unfold cmpB
  by_cases h1 : a.toList < b.toList
  · simp only [h1, if_true]
    constructor
    · intro h; omega
    · rintro rfl; exact absurd h1 (List.lt_irrefl _)
  · by_cases h2 : b.toList < a.toList
    · simp only [h1, h2, if_true, if_false]
      constructor
      · intro h; omega
      · rintro rfl; exact absurd h2 (List.lt_irrefl _)
    · simp only [h1, h2, if_false, true_iff]
      exact byteList_eq (blt_tri h1 h2)
theorem cmpN_neg {a b : Int} : cmpN a b < 0 ↔ a < b := by
  unfold cmpN
  by_cases h1 : a < b
  · simp [h1]
  · by_cases h2 : b < a <;> simp [h1, h2]
theorem qOrd_lt (a b : QK) : Go.Proofs.ltOf qOrd a b = true ↔ qLess a b := by
  unfold Go.Proofs.ltOf qOrd orN qLess
  rw [decide_eq_true_iff]
  by_cases h : cmpB a.1.1 b.1.1 = 0
  · rw [if_pos h, cmpN_neg]
    have h2 := cmpB_zero.1 h
    rw [h2]
    constructor
    · intro h3; exact .inr ⟨rfl, h3⟩
    · rintro (h3 | h3)
      · exact absurd h3 (List.lt_irrefl _)
      · exact h3.2
  · rw [if_neg h, cmpB_neg]
    constructor
    · intro h3; exact .inl h3
    · rintro (h3 | h3)
      · exact h3
      · exact absurd (cmpB_zero.2 h3.1) h
theorem qLess_irrefl (a : QK) : ¬ qLess a a := by
  rintro (h | h)
  · exact List.lt_irrefl _ h
  · omega
theorem qLess_trans {a b c : QK} (h1 : qLess a b) (h2 : qLess b c) : qLess a c := by
  rcases h1 with h1 | ⟨h1, h1'⟩ <;> rcases h2 with h2 | ⟨h2, h2'⟩
  · exact .inl (List.lt_trans h1 h2)
  · rw [h2] at h1; exact .inl h1
  · rw [← h1] at h2; exact .inl h2
  · exact .inr ⟨h1.trans h2, by omega⟩
theorem qLess_tri (a b : QK) : qLess a b ∨ a = b ∨ qLess b a := by
  by_cases h1 : a.1.1.toList < b.1.1.toList
  · exact .inl (.inl h1)
  · by_cases h2 : b.1.1.toList < a.1.1.toList
    · exact .inr (.inr (.inl h2))
    · have h3 := byteList_eq (blt_tri h1 h2)
      rcases Int.lt_trichotomy a.1.2 b.1.2 with h | h | h
      · exact .inl (.inr ⟨h3, h⟩)
      · exact .inr (.inl (Subtype.ext (Prod.ext h3 h)))
      · exact .inr (.inr (.inr ⟨h3.symm, h⟩))
theorem qord_swo : Go.Sort.SWO (Go.Proofs.ltOf qOrd) where
  irrefl x := by
    rw [Bool.eq_false_iff]
    intro h
    exact qLess_irrefl x ((qOrd_lt x x).1 h)
  trans x y z h1 h2 := (qOrd_lt x z).2 (qLess_trans ((qOrd_lt x y).1 h1) ((qOrd_lt y z).1 h2))
  ntrans x y z h1 h2 := by
    rw [Bool.eq_false_iff] at *
    intro h
    have h3 := (qOrd_lt _ _).1 h
    have n1 : ¬ qLess x y := fun hx => h1 ((qOrd_lt _ _).2 hx)
    have n2 : ¬ qLess y z := fun hx => h2 ((qOrd_lt _ _).2 hx)
    rcases qLess_tri x y with h4 | h4 | h4
    · exact n1 h4
    · subst h4; exact n2 h3
    · exact n2 (qLess_trans h4 h3)
theorem agg_id (w : World) : (isAgg 98).run Tryz.prog w = .ok true w := by kernel_rfl
theorem size_id (w : World) : (Go.sizeOf 98).run Tryz.prog w = .ok 2 w := by kernel_rfl
def QSorted (l : List QK) : Prop := l.Pairwise fun a b => ¬ qLess b a
theorem qsort_any (v : Value) (l : List QK) (base : Nat) (w : World) (h : IdsAt w base v l) (hl : l.length < 4611686018427387904) :
    Calls Tryz.prog 80 #[v, .func (.func 81) #[] #[]] w fun e w' => e = .returned (.tuple #[]) ∧ ∃ l', l'.Perm l ∧ QSorted l' ∧ IdsAt w' base v l' ∧ w.grownBy w' v.ownBlock := by
  rcases h.2 with ⟨rfl, h0⟩ | ⟨g1, cap, cur, rfl, hbase, hb, h1, h2, h3, h4⟩
  · obtain rfl : l = [] := List.length_eq_zero_iff.1 h0
    refine (AnyF.slices_SortFunc_none Tryz.sortW none 0 _ w).mono ?_
    rintro e w' ⟨rfl, rfl⟩
    exact ⟨rfl, [], List.Perm.refl _, List.Pairwise.nil, World.ownsRow_nil _ _ _ _, grownBy_refl _ _⟩
  · have eg : ∀ args w, (callFunc 81 args).run Tryz.prog w = .ok (.enter 81 args) w := enters_of Tryz.func81 (by kernel_rfl) rfl
    have hcell : ∀ j, j < l.length * 2 → cur[j]? = (l.flatMap qenc)[j]? := fun j hj => by
      have e1 : (cur.toList.take (l.length * 2))[j]? = (l.flatMap qenc)[j]? := by rw [h4]
      rwa [List.getElem?_take, if_pos hj, Array.getElem?_toList] at e1
    have hH : Go.Sort.HoldsK qenc 2 w g1 0 l.toArray := by
      intro j hj
      have hj' : j < l.length * 2 := by simpa using hj
      refine ⟨?_, by simp [World.frozen?, hb]⟩
      have e1 : (Go.Sort.flatK qenc 2 l.toArray)[j]? = (l.flatMap qenc)[j]? := by rw [← qflatK_list l, Array.getElem?_toList]
      rw [← hcell j hj', Array.getElem?_eq_getElem (by simpa using hj')] at e1
      rw [getElem!_pos _ j (by simpa using hj')]
      simp only [World.cell?, hb, Nat.zero_add]
      exact e1.symm
    have hcon := AnyQ.slices_SortFunc Tryz.sortW 2 agg_id size_id qenc qenc_length qenc_one qOrd qord_swo 81 #[] g1 0 cap l.toArray w eg (fun m os dk _ x y => qclosure_any x y _) hH (Array.getElem?_eq_some_iff.1 hb).1 (by simpa using hl)
    refine hcon.mono ?_
    rintro e w' ⟨rfl, d', n, os, hp, hs, rfl⟩
    have hsz : d'.size = l.length := by have := hp.1; simpa using this
    have hperm : d'.toList.Perm l := by
      have h5 := hp.2.2
      have e1 : d'.extract 0 l.toArray.size = d' := by
        rw [show l.toArray.size = d'.size by simp [hsz]]
        simp
      have e2 : l.toArray.extract 0 l.toArray.size = l.toArray := by simp
      rw [e1, e2] at h5
      simpa using h5
    refine ⟨rfl, d'.toList, hperm, ?_, ?_, ?_⟩
    · unfold QSorted
      rw [List.pairwise_iff_getElem]
      intro i j hi hj hij
      have hi' : i < d'.size := by simpa using hi
      have hj' : j < d'.size := by simpa using hj
      have h6 := hs i j (Nat.zero_le _) hij (by simp; omega)
      rw [getElem!_pos _ i hi', getElem!_pos _ j hj'] at h6
      simp only [Array.getElem_toList]
      intro hx
      rw [(qOrd_lt _ _).2 hx] at h6
      cases h6
    · have hl4 : (d'.toList.flatMap qenc).length = l.length * 2 := by rw [qflat_length, Array.length_toList, hsz]
      have hheap : (Go.Proofs.sortWorldK qenc 2 w g1 0 n d' os).heap[g1]? = some (.cells (putCells id 0 (Go.Sort.flatK qenc 2 d') cur) 98 (0, 0)) := by
        unfold Go.Proofs.sortWorldK Go.Sort.putRowK
        have hg : g1 < w.heap.size := (Array.getElem?_eq_some_iff.1 hb).1
        rw [Go.Sort.heap_grow_old _ _ (by simpa using hg)]
        simp [putRow, Go.Sort.mapBlock, Go.Sort.ahead, Array.getElem?_modify, hb, Go.Sort.onCells]
      have hfl : (Go.Sort.flatK qenc 2 d').toList = d'.toList.flatMap qenc := by
        have := qflatK_list d'.toList
        rwa [Array.toArray_toList] at this
      unfold IdsAt
      rw [show d'.toList.length = l.length by simpa using hsz]
      refine ⟨hl4, .inr ⟨g1, cap, _, rfl, hbase, hheap, h1, h2, by simp [putCells, h3], ?_⟩⟩
      rw [← hfl]
      apply List.ext_getElem?
      intro j
      by_cases hj : j < l.length * 2
      · have hjc : j < cur.size := by rw [h3]; exact Nat.lt_of_lt_of_le hj (Nat.mul_le_mul_right _ h1)
        have hjd : j < d'.size * 2 := by rw [hsz]; exact hj
        rw [List.getElem?_take_of_lt hj, Array.getElem?_toList, Array.getElem?_toList]
        simp [putCells, hjd, hjc]
      · rw [List.getElem?_take_eq_none (by omega), List.getElem?_eq_none (by rw [Array.length_toList, Go.Sort.size_flatK, hsz]; omega)]
    · refine ⟨rfl, rfl, rfl, by simp [Go.Proofs.sortWorldK, Go.Sort.putRowK], fun k hk hne => ?_⟩
      unfold Go.Proofs.sortWorldK Go.Sort.putRowK
      rw [Go.Sort.heap_grow_old _ _ (by simpa using hk)]
      have : g1 ≠ k := fun e => hne (by rw [e]; rfl)
      simp [putRow, Go.Sort.mapBlock, Go.Sort.ahead, Array.getElem?_modify, this]
end Go.Proofs.YtdnhgodfmjapmaaGreatDoor
