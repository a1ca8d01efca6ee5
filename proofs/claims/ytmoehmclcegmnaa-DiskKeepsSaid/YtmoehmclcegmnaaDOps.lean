/-
  An argument that is a slice of operations, opened.
-/
import Derived.Test.YtmoehmclcegmnaaDRoomW
import Derived.Deep.Grids
import Derived.SliceStrings
import Derived.ChangeSame
namespace Go.Proofs.Ytmoehmclcegmnaa
open Go.RowKit Go.Deep
open Go.ChangeShapes Go.WideShapes

instance : Inhabited OpM := ⟨⟨0, 0, ⟨#[]⟩, ⟨#[]⟩, ⟨#[]⟩, .nilIface, [], .nilIface, [], 0⟩⟩
section
variable {H : Type} {enc : TypeId × Value → H} {W : World}
theorem i64_le {n : Int} (h : (Lit.int .i64 n).wf = true) : n ≤ 9223372036854775807 := by
  have h2 : IntKind.i64.min ≤ n ∧ n ≤ 9223372036854775807 := by simpa [Lit.wf] using h
  exact h2.2
theorem strs_open {n : Nat} {v : Value} {y : DataW H × List MemPlace} (h : DataW.trod enc Try.prog W 0 (fun _ => true) true n 31 [v] = some y) : ∃ zs, Strs W 0 v zs ∧ LowV W v := by
  rcases open_strings Try.underlying31 Try.underlying9 (by kernel_rfl) h with ⟨hcs, _⟩ | ⟨x, l, c, zs, hcs, _, hl, _, hz, _, hcell, hwf⟩
  · obtain rfl : v = _ := List.singleton_inj.1 hcs
    exact ⟨[], ⟨none, 0, rfl, .inl rfl⟩, fun b o l c e => by cases e⟩
  · obtain rfl : v = _ := List.singleton_inj.1 hcs
    have hz' : zs.length = c := by simpa using hz
    refine ⟨zs.take l, strs_of hl hz' hcell, fun b o l' c' e h0 => ?_⟩
    cases e
    have := World.block_lt_of_cell? _ _ (hcell 0 (by omega))
    simpa [Addr.add] using this
theorem bools_open {n : Nat} {v : Value} {y : DataW H × List MemPlace} (h : DataW.trod enc Try.prog W 0 (fun _ => true) true n 32 [v] = some y) : ∃ zs, BoolsOf W v zs ∧ LowV W v := by
  rcases open_bools Try.underlying32 Try.underlying4 (by kernel_rfl) h with ⟨hcs, _⟩ | ⟨a, l, c, B, hcs, _, hl, _, _, hcell⟩
  · obtain rfl : v = _ := List.singleton_inj.1 hcs
    exact ⟨[], ⟨none, 0, rfl, .inl rfl⟩, fun b o l c e => by cases e⟩
  · obtain rfl : v = _ := List.singleton_inj.1 hcs
    refine ⟨(List.range l).map B, ⟨some a, c, by simp, ?_⟩, fun b o l' c' e h0 => ?_⟩
    · rcases Nat.eq_zero_or_pos l with h | h
      · subst h; exact .inl rfl
      · right
        obtain ⟨b, off, spot⟩ := a
        have hc := hcell 0 (by omega)
        have hspot : spot = none := by simpa [Addr.add] using World.cell?_spot hc
        subst hspot
        refine ⟨b, off, rfl, fun i hi => ?_⟩
        have hi' : i < l := by simpa using hi
        have := hcell i (by omega)
        rw [add_none] at this
        rw [this]
        simp [List.getD_eq_getElem?_getD, hi']
    · cases e
      have := World.block_lt_of_cell? _ _ (hcell 0 (by omega))
      simpa [Addr.add] using this
set_option maxRecDepth 100000 in
theorem op_open {n : Nat} {b o : Nat} {cs : List Value} {y : DataW H × List MemPlace} (hcs : W.cells? 0 ⟨b, o, none⟩ 8 = some cs) (h : DataW.trod enc Try.prog W 0 (fun _ => true) true n 36 cs = some y) :
    ∃ x : OpM, OpAt W b o x ∧ x.at_ ≤ 9223372036854775807 ∧ LowV W x.vn ∧ LowV W x.vk := by
  obtain ⟨_, hlen, hat⟩ := World.cells?_some hcs
  obtain ⟨xs, m, _, _, _, hxl, hf⟩ := DataW.trod_struct Try.underlying36 h
  match cs, hlen with
  | [c0, c1, c2, c3, c4, c5, c6, c7], _ =>
    have hx : xs.length = 7 := hxl
    match xs, hx with
    | [y0, y1, y2, y3, y4, y5, y6], _ =>
      have f0 : DataW.trod enc Try.prog W 0 (fun _ => true) true m 3 [c0] = some y0 := hf 0 _ rfl
      have f1 : DataW.trod enc Try.prog W 0 (fun _ => true) true m 3 [c1] = some y1 := hf 1 _ rfl
      have f2 : DataW.trod enc Try.prog W 0 (fun _ => true) true m 9 [c2] = some y2 := hf 2 _ rfl
      have f3 : DataW.trod enc Try.prog W 0 (fun _ => true) true m 9 [c3] = some y3 := hf 3 _ rfl
      have f4 : DataW.trod enc Try.prog W 0 (fun _ => true) true m 9 [c4] = some y4 := hf 4 _ rfl
      have f5 : DataW.trod enc Try.prog W 0 (fun _ => true) true m 31 [c5] = some y5 := hf 5 _ rfl
      have f6 : DataW.trod enc Try.prog W 0 (fun _ => true) true m 34 [c6, c7] = some y6 := hf 6 _ rfl
      obtain ⟨ys, m2, _, _, _, hyl, hg⟩ := DataW.trod_struct Try.underlying34 f6
      have hy : ys.length = 2 := hyl
      match ys, hy with
      | [z0, z1], _ =>
        have g0 : DataW.trod enc Try.prog W 0 (fun _ => true) true m2 32 [c6] = some z0 := hg 0 _ rfl
        have g1 : DataW.trod enc Try.prog W 0 (fun _ => true) true m2 3 [c7] = some z1 := hg 1 _ rfl
        obtain ⟨k, e0, _, _⟩ := DataW.trod_int Try.underlying3 f0
        obtain ⟨at_, e1, _, w1⟩ := DataW.trod_int Try.underlying3 f1
        obtain ⟨nm, e2, _, _⟩ := DataW.trod_string Try.underlying9 f2
        obtain ⟨to_, e3, _, _⟩ := DataW.trod_string Try.underlying9 f3
        obtain ⟨data, e4, _, _⟩ := DataW.trod_string Try.underlying9 f4
        obtain ⟨lack, e7, _, _⟩ := DataW.trod_int Try.underlying3 g1
        obtain ⟨names, hs, hsl⟩ := strs_open f5
        obtain ⟨bs, hb, hbl⟩ := bools_open g0
        obtain rfl : c0 = _ := List.singleton_inj.1 e0
        obtain rfl : c1 = _ := List.singleton_inj.1 e1
        obtain rfl : c2 = _ := List.singleton_inj.1 e2
        obtain rfl : c3 = _ := List.singleton_inj.1 e3
        obtain rfl : c4 = _ := List.singleton_inj.1 e4
        obtain rfl : c7 = _ := List.singleton_inj.1 e7
        have at_' : ∀ j, j < 8 → W.cell? ⟨b, o + j, none⟩ = [Value.int .i64 k, .int .i64 at_, .string nm, .string to_, .string data, c5, c6, .int .i64 lack][j]? := fun j hj => by
          have := hat j hj
          rw [add_none] at this
          exact this
        exact ⟨⟨k, at_, nm, to_, data, c5, names, c6, bs, lack⟩, ⟨at_' 0 (by decide), at_' 1 (by decide), at_' 2 (by decide), at_' 3 (by decide), at_' 4 (by decide), at_' 5 (by decide), at_' 6 (by decide), at_' 7 (by decide), hs, hb⟩, i64_le w1, hsl, hbl⟩
set_option maxRecDepth 100000 in
theorem open_ops {n : Nat} {la : Option Addr} {len cap : Nat} {y : DataW H × List MemPlace} (h : DataW.trod enc Try.prog W 0 (fun _ => true) true n 22 [.slice la len cap] = some y) :
    ∃ os, OpsAt W (.slice la len cap) os ∧ os.length ≤ maxLen ∧ ∀ x ∈ os, x.at_ ≤ 9223372036854775807 ∧ LowV W x.vn ∧ LowV W x.vk := by
  rcases open_slice Try.underlying22 h with ⟨hcs, _⟩ | ⟨a, l, c, m, q, D, Pl, hcs, _, hl, hm, hmm, _, hi⟩
  · cases hcs
    exact ⟨[], ⟨none, 0, rfl, .inl rfl⟩, Nat.zero_le _, fun x hx => by cases hx⟩
  · cases hcs
    have hC : Try.prog.cellsOf 36 = 8 := by kernel_rfl
    rcases Nat.eq_zero_or_pos len with h0 | h0
    · subst h0
      exact ⟨[], ⟨some a, cap, rfl, .inl rfl⟩, Nat.zero_le _, fun x hx => by cases hx⟩
    · have hml : len ≤ m := by rw [hmm]; simpa using hl
      obtain ⟨b, off, spot⟩ := a
      have hspot : spot = none := by
        obtain ⟨cs', h1, _⟩ := hi 0 (by omega)
        rw [hC] at h1
        obtain ⟨_, hlen, hat⟩ := World.cells?_some h1
        have h2 := hat 0 (by decide)
        rw [List.getElem?_eq_getElem (by omega)] at h2
        simpa [Addr.add] using World.cell?_spot h2
      subst hspot
      obtain ⟨X, hX⟩ := choose_lt (n := len) (p := fun i x => OpAt W b (off + i * 8) x ∧ x.at_ ≤ 9223372036854775807 ∧ LowV W x.vn ∧ LowV W x.vk) (fun i hil => by
        obtain ⟨cs', h1, h2⟩ := hi i (by omega)
        rw [hC, add_none] at h1
        exact op_open h1 h2)
      refine ⟨(List.range len).map X, ⟨_, cap, by simp, .inr ⟨b, off, rfl, fun i x hx => ?_⟩⟩, by simpa using Nat.le_trans hl hm, fun x hx => ?_⟩
      · rw [List.getElem?_map] at hx
        obtain ⟨j, hj, rfl⟩ := Option.map_eq_some_iff.1 hx
        have hjl := List.getElem?_eq_some_iff.1 hj
        obtain ⟨h1, h2⟩ := hjl
        rw [List.getElem_range] at h2
        subst h2
        exact (hX _ (by simpa using h1)).1
      · obtain ⟨i, hil, rfl⟩ := List.mem_map.1 hx
        exact (hX i (List.mem_range.1 hil)).2
end

theorem walkF_DiskRoom (a0 : Int) (v : Value) (os : List OpM) (w : World) (h0 : (Lit.int .u16 a0).wf = true) (h : OpsAt w v os) (hl : os.length ≤ maxLen)
    (hm : ∀ x ∈ os, x.at_ ≤ 9223372036854775807 ∧ LowV w x.vn ∧ LowV w x.vk) :
    Calls Try.prog 5 #[.int .u16 a0, v] w (fun e w' => e = .returned (.bool true) ∧ Below w.heap.size w w') := by
  have h2 : IntKind.u16.min ≤ a0 ∧ a0 ≤ IntKind.u16.max := by simpa [Lit.wf] using h0
  have e1 : IntKind.u16.min = 0 := by decide
  have e2 : IntKind.u16.max = 65535 := by decide
  have h3 : 0 ≤ a0 ∧ a0 ≤ 65535 := by omega
  exact (walk_DiskRoom a0 v os w h3.1 h3.2 h hl hm).mono fun e w' hh => ⟨hh.1, hh.2.below (fun _ _ e => e.elim) (Nat.le_refl _)⟩
end Go.Proofs.Ytmoehmclcegmnaa
