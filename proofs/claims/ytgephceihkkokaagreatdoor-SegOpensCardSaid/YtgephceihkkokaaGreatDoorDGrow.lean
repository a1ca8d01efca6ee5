/-
  The contract of slices.Grow at bytes: room is made, what was there stays.
-/
import Derived.Test.YtgephceihkkokaaGreatDoorDMem
import Derived.Lib.AppendZerosOnto
namespace Go.Proofs.YtgephceihkkokaaGreatDoor
open Go.RowKit Go.Deep

theorem info_u8 : (Tryz.prog.info? 5).map (fun i => (i.zero, i.size, i.bytes)) = some (some (.int .u8 0), 1, 1) := by kernel_rfl

/-- What Grow hands back: the same bytes, in a block with room for so many. -/
def Grown (w : World) (v : Value) (xs : List UInt8) (m : Nat) (e : Ending) (w' : World) : Prop :=
  ∃ g cap cur, e = .returned (.slice (some ⟨g, 0, none⟩) xs.length cap) ∧ w'.heap[g]? = some (.cells cur 5 (0, 0)) ∧ m ≤ cap ∧ cap ≤ maxLen ∧ cur.size = cap ∧ cur.toList.take xs.length = xs.map by8 ∧
    w.grownBy w' none ∧ (v.ownBlock = some g ∨ g = w.heap.size)

theorem grow_room (g l c n : Nat) (w : World) (hlc : l ≤ c) (hc63 : c ≤ 9223372036854775807) (hn63 : n ≤ 9223372036854775807) (hroom : l + n ≤ c) :
    Calls Tryz.prog 84 #[.slice (some ⟨g, 0, none⟩) l c, .int .i64 n] w fun e w' => e = .returned (.slice (some ⟨g, 0, none⟩) l c) ∧ w = w' := by
  have h1 : ¬ ((n : Int) < 0) := by omega
  have h2 : wrap64 ((c : Int) - (l : Int)) = (c : Int) - (l : Int) := by unfold wrap64; omega
  have h3 : wrap64 ((n : Int) - ((c : Int) - (l : Int))) = (n : Int) - ((c : Int) - (l : Int)) := by unfold wrap64; omega
  have h4 : ¬ ((n : Int) - ((c : Int) - (l : Int)) > 0) := by omega
  go_enter Tryz.func84, Tryz.ntmps84
  go_wp2
  go_ret
  exact ⟨rfl, rfl⟩

set_option maxHeartbeats 1000000 in
theorem grow_more (base : Option Addr) (l c n : Nat) (cs : List Value) (w : World) (hlc : l ≤ c) (hroom : c < l + n) (hbig : l + n ≤ 1099511627776)
    (hcl : cs.length = c) (hnil : base = none → c = 0) (hcs : ∀ a, base = some a → ∀ j v, cs[j]? = some v → w.cell? (a.add j) = some v) :
    Calls Tryz.prog 84 #[.slice base l c, .int .i64 n] w fun e w' =>
      e = .returned (.slice (some ⟨w.heap.size, 0, none⟩) l (grownCap w (l + n) c 5)) ∧
      w' = w.drew.alloc (.cells (cs.toArray ++ Builtin.zeroCells #[.int .u8 0] (l + n - c) ++ Builtin.zeroCells #[.int .u8 0] (grownCap w (l + n) c 5 - (l + n))) 5) := by
  obtain ⟨i0, hi, hz0, hz1, hz2⟩ := info_parts info_u8
  have h1 : ¬ ((n : Int) < 0) := by omega
  have h2 : wrap64 ((c : Int) - (l : Int)) = (c : Int) - (l : Int) := by unfold wrap64; omega
  have h3 : wrap64 ((n : Int) - ((c : Int) - (l : Int))) = (n : Int) - ((c : Int) - (l : Int)) := by unfold wrap64; omega
  have h4 : (n : Int) - ((c : Int) - (l : Int)) > 0 := by omega
  have hck : c + (l + n - c) = l + n := by omega
  have hold : (Builtin.firstCells i0.size c (.slice base c c)).run Tryz.prog w.drew = .ok cs.toArray w.drew := by
    cases base with
    | none =>
      have h0 := hnil rfl
      subst h0
      have hc0 : cs = [] := List.length_eq_zero_iff.1 hcl
      rw [hc0]
      exact run_firstCells_none (P := Tryz.prog) w.drew i0.size 0 0 0
    | some a => exact run_firstCells_some (P := Tryz.prog) w.drew i0.size c a c c cs (by rw [hz1]; omega) (fun j v hj => hcs a rfl j v hj)
  have hrz : ∀ ty, (Builtin.append_ #[48, 3] ty #[.slice base c c, .int .i64 ((n : Int) - ((c : Int) - (l : Int)))]).run Tryz.prog w =
      .ok (.slice (some ⟨w.heap.size, 0, none⟩) (l + n) (grownCap w (l + n) c 5)) (w.drew.alloc (.cells (cs.toArray ++ Builtin.zeroCells #[.int .u8 0] (l + n - c) ++ Builtin.zeroCells #[.int .u8 0] (grownCap w (l + n) c 5 - (l + n))) 5)) := fun ty => by
    have h := Lib.run_append_grow_zeros w 48 3 ty 5 i0 (.int .u8 0) .i64 .i64 Tryz.underlying48 Tryz.underlying3 hi hz0 base c c cs hold (l + n - c) (by omega) (by omega) (by omega) (by omega)
      (by rw [hz2]; omega)
      (by rw [hck]; exact growslice_fits hroom (by rw [hz2]; omega))
    rw [hck] at h
    rw [show (n : Int) - ((c : Int) - (l : Int)) = ((l + n - c : Nat) : Int) by omega]
    exact h
  have hGn : l + n ≤ grownCap w (l + n) c 5 := grownCap_ge w _ _ _
  obtain ⟨G, hG⟩ : ∃ G, G = grownCap w (l + n) c 5 := ⟨_, rfl⟩
  rw [← hG] at hrz hGn ⊢
  have hG63 : G ≤ 9223372036854775807 := by
    have := grownCap_le_maxLen w (l + n) c 5 (by unfold maxLen; omega)
    rw [← hG] at this
    unfold maxLen at this
    omega
  clear hold hck hG hcs hcl hi hz0 hz1 hz2
  go_enter Tryz.func84, Tryz.ntmps84
  cases base with
  | none =>
    have h0 := hnil rfl
    subst h0
    obtain rfl : l = 0 := by omega
    go_wp2_with (at_builtin; refine Lib.wpList_append_run _ rfl _ _ _ _ rfl _ _ rfl rfl _ _ (hrz _) ?_)
    all_goals (go_ret; exact ⟨rfl, rfl⟩)
  | some a =>
    obtain ⟨ab, ao, asp⟩ := a
    go_wp2_with (at_builtin; refine Lib.wpList_append_run _ rfl _ _ _ _ rfl _ _ rfl rfl _ _ (hrz _) ?_)
    all_goals (go_ret; exact ⟨rfl, rfl⟩)

theorem zeroCells_size (z : Value) (n : Nat) : (Builtin.zeroCells #[z] n).size = n := by simp [Builtin.zeroCells]

theorem grow_any (v : Value) (xs : List UInt8) (n : Nat) (w : World) (h : BytesAt w v xs) (hn : 0 < n) (hbig : xs.length + n ≤ 1099511627776) :
    Calls Tryz.prog 84 #[v, .int .i64 n] w (Grown w v xs (xs.length + n)) := by
  rcases h.form with ⟨rfl, rfl⟩ | ⟨g, cap, cur, rfl, hg, h1, h2, h3, h4⟩
  · refine (grow_more none 0 0 n [] w (Nat.le_refl _) (by omega) (by simpa using hbig) rfl (fun _ => rfl) (fun a ha => by cases ha)).mono fun e w' ⟨he, hw⟩ => ?_
    subst hw
    have hge := grownCap_ge w (0 + n) 0 5
    have hle := grownCap_le_maxLen w (0 + n) 0 5 (by unfold maxLen; omega)
    refine ⟨w.heap.size, _, _, he, heap_alloc_new w.drew _, by simpa using hge, hle, ?_, by simp, ⟨rfl, rfl, rfl, by simp, fun k hk _ => Below.heap_alloc w.drew _ k hk⟩, .inr rfl⟩
    simp only [Array.size_append, zeroCells_size, List.size_toArray, List.length_nil]
    omega
  · by_cases hr : xs.length + n ≤ cap
    · unfold maxLen at h2
      refine (grow_room g xs.length cap n w h1 h2 (by omega) hr).mono fun e w' ⟨he, hw⟩ => ?_
      subst hw
      exact ⟨g, cap, cur, he, hg, hr, by unfold maxLen; omega, h3, h4, ⟨rfl, rfl, rfl, Nat.le_refl _, fun _ _ _ => rfl⟩, .inl rfl⟩
    · refine (grow_more (some ⟨g, 0, none⟩) xs.length cap n cur.toList w h1 (by omega) hbig (by simpa using h3) (fun e => by cases e) (fun a ha j u hu => ?_)).mono fun e w' ⟨he, hw⟩ => ?_
      · cases ha
        rw [add_none]
        have : cur[j]? = some u := by simpa using hu
        simp [World.cell?, hg, this]
      · subst hw
        have hge := grownCap_ge w (xs.length + n) cap 5
        have hle := grownCap_le_maxLen w (xs.length + n) cap 5 (by unfold maxLen; omega)
        refine ⟨w.heap.size, _, _, he, heap_alloc_new w.drew _, hge, hle, ?_, ?_, ⟨rfl, rfl, rfl, by simp, fun k hk _ => Below.heap_alloc w.drew _ k hk⟩, .inr rfl⟩
        · simp only [Array.size_append, zeroCells_size, List.size_toArray, Array.length_toList]
          omega
        · simp only [Array.toList_append, List.append_assoc]
          rw [List.take_append_of_le_length (by simp; omega)]
          exact h4
end Go.Proofs.YtgephceihkkokaaGreatDoor
