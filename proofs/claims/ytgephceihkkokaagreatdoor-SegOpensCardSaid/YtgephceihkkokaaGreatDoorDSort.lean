/-
  The writes that wait, sorted by their turns.
-/
import Derived.Test.YtgephceihkkokaaGreatDoorDList
import Derived.Shelf.SlSortCmp.NoneTotal
namespace Go.Proofs.YtgephceihkkokaaGreatDoor
open Go.RowKit Go.Deep
open Go.Sort (grow putRow Holds putCells PermIn SortedIn)

/-- A write that waits, and the block of its file. -/
structure WaitM where
  x : WriteM
  to_ : Nat
instance : Inhabited WaitM := ⟨⟨⟨0, 0, ⟨#[]⟩⟩, 0⟩⟩
def wenc (z : WaitM) : List Value := [.int .i64 z.x.turn, .int .i64 z.x.at_, .string z.x.s, .pointer (some ⟨z.to_, 0, none⟩)]
theorem wenc_length (z : WaitM) : (wenc z).length = 4 := rfl
theorem wenc_one (z : WaitM) : ∀ v ∈ wenc z, v.oneCell' = true := by
  intro v hv
  simp [wenc] at hv
  rcases hv with rfl | rfl | rfl | rfl <;> rfl
def WaitsAt (w : World) (base : Nat) (v : Value) (l : List WaitM) : Prop := w.ownsRow base 105 4 v l.length (l.flatMap wenc)

theorem flat_get {α : Type} {enc : α → List Value} {k : Nat} (hk : ∀ x, (enc x).length = k) : ∀ (l : List α) (i j : Nat), j < k → (l.flatMap enc)[i * k + j]? = (l[i]?).bind fun x => (enc x)[j]?
  | [], i, j, _ => by simp
  | x :: l, 0, j, hj => by
    rw [List.flatMap_cons, List.getElem?_append, hk, if_pos (by omega), Nat.zero_mul, Nat.zero_add]
    simp
  | x :: l, i + 1, j, hj => by
    rw [List.flatMap_cons, List.getElem?_append, hk, if_neg (by rw [Nat.add_mul]; omega), show (i + 1) * k + j - k = i * k + j by rw [Nat.add_mul]; omega, flat_get hk l i j hj]
    simp
theorem flatK_list (l : List WaitM) : (Go.Sort.flatK wenc 4 l.toArray).toList = l.flatMap wenc := by
  apply List.ext_getElem?
  intro t
  have hlen : (l.flatMap wenc).length = l.length * 4 := by
    induction l with
    | nil => rfl
    | cons x l ih => rw [List.flatMap_cons, List.length_append, ih, wenc_length, List.length_cons]; omega
  by_cases ht : t < l.length * 4
  · have e1 : t = t / 4 * 4 + t % 4 := by omega
    have h4 : t / 4 < l.length := by omega
    rw [e1, flat_get wenc_length l (t / 4) (t % 4) (by omega), ← e1, List.getElem?_eq_getElem h4]
    rw [Array.getElem?_toList]
    simp [Go.Sort.flatK, ht, h4]
    rw [List.getElem?_eq_getElem (by rw [wenc_length]; omega)]
    simp [getElem!_pos, wenc_length, Nat.mod_lt]
  · rw [List.getElem?_eq_none (by rw [Array.length_toList, Go.Sort.size_flatK]; simpa using Nat.le_of_not_lt ht), List.getElem?_eq_none (by omega)]

theorem isnan_any (a : Int) (w : World) : Calls Tryz.prog 109 #[.int .i64 a] w fun e w' => e = .returned (.bool false) ∧ w = w' := by
  go_enter Tryz.func109, Tryz.ntmps109
  go_wp2_with fail
  go_ret
  exact ⟨by simp, rfl⟩
def cmpI (a b : Int) : Int := if a < b then -1 else if b < a then 1 else 0
set_option maxRecDepth 100000 in
theorem compare_any (a b : Int) (w : World) : Calls Tryz.prog 83 #[.int .i64 a, .int .i64 b] w fun e w' => e = .returned (.int .i64 (cmpI a b)) ∧ w = w' := by
  by_cases h1 : a < b
  · go_enter Tryz.func83, Tryz.ntmps83
    go_wp2_with (go_at_call 109; refine (isnan_any _ _).mono ?_; rintro e w' ⟨rfl, rfl⟩)
    go_ret
    exact ⟨ret_of (by unfold cmpI; rw [if_pos (by omega)]), rfl⟩
  · by_cases h2 : b < a
    · go_enter Tryz.func83, Tryz.ntmps83
      go_wp2_with (go_at_call 109; refine (isnan_any _ _).mono ?_; rintro e w' ⟨rfl, rfl⟩)
      go_ret
      exact ⟨ret_of (by unfold cmpI; rw [if_neg (by omega), if_pos (by omega)]), rfl⟩
    · go_enter Tryz.func83, Tryz.ntmps83
      go_wp2_with (go_at_call 109; refine (isnan_any _ _).mono ?_; rintro e w' ⟨rfl, rfl⟩)
      go_ret
      exact ⟨ret_of (by unfold cmpI; rw [if_neg (by omega), if_neg (by omega)]), rfl⟩

def turnOf (a b : WaitM) : Int := cmpI a.x.turn b.x.turn
set_option maxRecDepth 100000 in
theorem closure_any (a b : WaitM) (W : World) : Calls Tryz.prog 82 #[.agg (wenc a).toArray, .agg (wenc b).toArray] W fun e w' => e = .returned (.int .i64 (turnOf a b)) ∧ ∃ q os', w' = grow (W.drewN q) os' := by
  have hcon := fun W' => compare_any a.x.turn b.x.turn W'
  unfold turnOf
  generalize cmpI a.x.turn b.x.turn = r at hcon ⊢
  obtain ⟨⟨ta, aa, sa⟩, pa⟩ := a
  obtain ⟨⟨tb, ab, sb⟩, pb⟩ := b
  simp only [wenc] at hcon ⊢
  have HC := Lib.hid hcon
  clear hcon
  go_enter Tryz.func82, Tryz.ntmps82
  go_wp2_with (go_at_call 83; refine (HC.out _).mono ?_; rintro e w' ⟨rfl, rfl⟩)
  go_ret
  exact ⟨rfl, 0, _, by rw [Go.Sort.alloc_eq_grow, Go.Sort.alloc_eq_grow, Go.Sort.grow_grow]; rfl⟩

theorem turn_lt (a b : WaitM) : Go.Proofs.ltOf turnOf a b = decide (a.x.turn < b.x.turn) := by
  unfold Go.Proofs.ltOf turnOf cmpI
  by_cases h1 : a.x.turn < b.x.turn
  · simp [h1]
  · by_cases h2 : b.x.turn < a.x.turn <;> simp [h1, h2]
theorem turn_swo : Go.Sort.SWO (Go.Proofs.ltOf turnOf) where
  irrefl x := by rw [turn_lt]; simp
  trans x y z h1 h2 := by rw [turn_lt] at *; simp at *; omega
  ntrans x y z h1 h2 := by rw [turn_lt] at *; simp at *; omega

theorem agg_waiting (w : World) : (isAgg 105).run Tryz.prog w = .ok true w := by kernel_rfl
theorem size_waiting (w : World) : (Go.sizeOf 105).run Tryz.prog w = .ok 4 w := by kernel_rfl

/-- Behind the sort. -/
def Sorted (l : List WaitM) : Prop := l.Pairwise fun a b => a.x.turn ≤ b.x.turn
theorem sort_any (v : Value) (l : List WaitM) (base : Nat) (w : World) (h : WaitsAt w base v l) (hl : l.length < 4611686018427387904) :
    Calls Tryz.prog 81 #[v, .func (.func 82) #[] #[]] w fun e w' => e = .returned (.tuple #[]) ∧ ∃ l', l'.Perm l ∧ Sorted l' ∧ WaitsAt w' base v l' ∧ w.grownBy w' v.ownBlock := by
  rcases h.2 with ⟨rfl, h0⟩ | ⟨g1, cap, cur, rfl, hbase, hb, h1, h2, h3, h4⟩
  · obtain rfl : l = [] := List.length_eq_zero_iff.1 h0
    refine (AnyF.slices_SortFunc_none Tryz.sortW none 0 _ w).mono ?_
    rintro e w' ⟨rfl, rfl⟩
    exact ⟨rfl, [], List.Perm.refl _, List.Pairwise.nil, World.ownsRow_nil _ _ _ _, grownBy_refl _ _⟩
  · have eg : ∀ args w, (callFunc 82 args).run Tryz.prog w = .ok (.enter 82 args) w := enters_of Tryz.func82 (by kernel_rfl) rfl
    have hcell : ∀ j, j < l.length * 4 → cur[j]? = (l.flatMap wenc)[j]? := fun j hj => by
      have e1 : (cur.toList.take (l.length * 4))[j]? = (l.flatMap wenc)[j]? := by rw [h4]
      rwa [List.getElem?_take, if_pos hj, Array.getElem?_toList] at e1
    have hH : Go.Sort.HoldsK wenc 4 w g1 0 l.toArray := by
      intro j hj
      have hj' : j < l.length * 4 := by simpa using hj
      refine ⟨?_, by simp [World.frozen?, hb]⟩
      have e1 : (Go.Sort.flatK wenc 4 l.toArray)[j]? = (l.flatMap wenc)[j]? := by rw [← flatK_list l, Array.getElem?_toList]
      rw [← hcell j hj', Array.getElem?_eq_getElem (by simpa using hj')] at e1
      rw [getElem!_pos _ j (by simpa using hj')]
      simp only [World.cell?, hb, Nat.zero_add]
      exact e1.symm
    have hcon := AnyQ.slices_SortFunc Tryz.sortW 4 agg_waiting size_waiting wenc wenc_length wenc_one turnOf turn_swo 82 #[] g1 0 cap l.toArray w eg (fun m os dk _ x y => closure_any x y _) hH (Array.getElem?_eq_some_iff.1 hb).1 (by simpa using hl)
    refine hcon.mono ?_
    rintro e w' ⟨rfl, d', n, os, hp, hs, rfl⟩
    have hsz : d'.size = l.length := by have := hp.1; simpa using this
    have hperm : d'.toList.Perm l := by
      have h5 := hp.2.2
      have e1 : d'.extract 0 l.toArray.size = d' := by
        rw [show l.toArray.size = d'.size by simp [hsz]]
        simp
      have e2 : l.toArray.extract 0 l.toArray.size = l.toArray := by simp
      rw [e1, e2] at h5
      simpa using h5
    refine ⟨rfl, d'.toList, hperm, ?_, ?_, ?_⟩
    · unfold Sorted
      rw [List.pairwise_iff_getElem]
      intro i j hi hj hij
      have hi' : i < d'.size := by simpa using hi
      have hj' : j < d'.size := by simpa using hj
      have h6 := hs i j (Nat.zero_le _) hij (by simp; omega)
      rw [turn_lt, getElem!_pos _ i hi', getElem!_pos _ j hj'] at h6
      simp only [Array.getElem_toList]
      have := of_decide_eq_false h6
      omega
    · have hl4 : (d'.toList.flatMap wenc).length = l.length * 4 := by
        have h7 : ∀ x : List WaitM, (x.flatMap wenc).length = x.length * 4 := by
          intro x
          induction x with
          | nil => rfl
          | cons a x ih => rw [List.flatMap_cons, List.length_append, ih, wenc_length, List.length_cons]; omega
        rw [h7, Array.length_toList, hsz]
      have hheap : (Go.Proofs.sortWorldK wenc 4 w g1 0 n d' os).heap[g1]? = some (.cells (putCells id 0 (Go.Sort.flatK wenc 4 d') cur) 105 (0, 0)) := by
        unfold Go.Proofs.sortWorldK Go.Sort.putRowK
        have hg : g1 < w.heap.size := (Array.getElem?_eq_some_iff.1 hb).1
        rw [Go.Sort.heap_grow_old _ _ (by simpa using hg)]
        simp [putRow, Go.Sort.mapBlock, Go.Sort.ahead, Array.getElem?_modify, hb, Go.Sort.onCells]
      have hfl : (Go.Sort.flatK wenc 4 d').toList = d'.toList.flatMap wenc := by
        have := flatK_list d'.toList
        rwa [Array.toArray_toList] at this
      unfold WaitsAt
      rw [show d'.toList.length = l.length by simpa using hsz]
      refine ⟨hl4, .inr ⟨g1, cap, _, rfl, hbase, hheap, h1, h2, by simp [putCells, h3], ?_⟩⟩
      rw [← hfl]
      apply List.ext_getElem?
      intro j
      by_cases hj : j < l.length * 4
      · have hjc : j < cur.size := by rw [h3]; exact Nat.lt_of_lt_of_le hj (Nat.mul_le_mul_right _ h1)
        have hjd : j < d'.size * 4 := by rw [hsz]; exact hj
        rw [List.getElem?_take_of_lt hj, Array.getElem?_toList, Array.getElem?_toList]
        simp [putCells, hjd, hjc]
      · rw [List.getElem?_take_eq_none (by omega), List.getElem?_eq_none (by rw [Array.length_toList, Go.Sort.size_flatK, hsz]; omega)]
    · refine ⟨rfl, rfl, rfl, by simp [Go.Proofs.sortWorldK, Go.Sort.putRowK], fun k hk hne => ?_⟩
      unfold Go.Proofs.sortWorldK Go.Sort.putRowK
      rw [Go.Sort.heap_grow_old _ _ (by simpa using hk)]
      have : g1 ≠ k := fun e => hne (by rw [e]; rfl)
      simp [putRow, Go.Sort.mapBlock, Go.Sort.ahead, Array.getElem?_modify, this]
end Go.Proofs.YtgephceihkkokaaGreatDoor
