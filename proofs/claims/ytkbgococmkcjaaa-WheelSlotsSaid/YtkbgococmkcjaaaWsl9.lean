/- A part. -/
import Derived.Deep.Grids
import Derived.Lib.SmallJoins
import Derived.Test.YtkbgococmkcjaaaWsl4
set_option linter.unusedVariables false
set_option linter.unusedSimpArgs false
namespace Go.Proofs.Ytkbgococmkcjaaa
open Go.Joins Go.RowKit Go.Deep
open Go.ChangeShapes Go.WideShapes
def PrAt (K : IntKind) (W : World) (b o : Nat) (x : Int × Int) : Prop := W.cell? ⟨b, o, none⟩ = some (.int K x.1) ∧ W.cell? ⟨b, o + 1, none⟩ = some (.int K x.2)
def Prs (K : IntKind) (W : World) (v : Value) (os : List (Int × Int)) : Prop := ∃ a cap, v = .slice a os.length cap ∧ (os = [] ∨ ∃ b o, a = some ⟨b, o, none⟩ ∧ ∀ i x, os[i]? = some x → PrAt K W b (o + i * 2) x)
theorem Prs.form {K : IntKind} {W : World} {v : Value} {os : List (Int × Int)} (h : Prs K W v os) : ∃ a cap, v = .slice a os.length cap := by
  obtain ⟨a, cap, e, _⟩ := h
  exact ⟨a, cap, e⟩
theorem Prs.at_ {K : IntKind} {W : World} {a : Option Addr} {n cap k : Nat} {os : List (Int × Int)} (h : Prs K W (.slice a n cap) os) (hk : k < os.length) : ∃ b o, a = some ⟨b, o, none⟩ ∧ PrAt K W b (o + k * 2) (os.getD k (0, 0)) := by
  obtain ⟨a', cap', e, h⟩ := h
  cases e
  rcases h with h | ⟨b, o, e, h⟩
  · rw [h] at hk; simp at hk
  · exact ⟨b, o, e, h k _ (by rw [List.getD_eq_getElem?_getD, List.getElem?_eq_getElem hk]; rfl)⟩
theorem Prs.below {K : IntKind} {w w' : World} {v : Value} {os : List (Int × Int)} (h : Prs K w v os) (hb : Below w.heap.size w w') : Prs K w' v os := by
  obtain ⟨a, cap, e, h⟩ := h
  refine ⟨a, cap, e, h.imp id ?_⟩
  rintro ⟨b, o, e2, h⟩
  refine ⟨b, o, e2, fun i x hx => ?_⟩
  obtain ⟨h1, h2⟩ := h i x hx
  exact ⟨(World.cell?_of_block (hb.block b (World.block_lt_of_cell? _ _ h1))).trans h1, (World.cell?_of_block (hb.block b (World.block_lt_of_cell? _ _ h2))).trans h2⟩
section
variable {H : Type} {enc : TypeId × Value → H} {W : World}
set_option maxRecDepth 100000 in
theorem pr_open_pri {n : Nat} {b o : Nat} {cs : List Value} {y : DataW H × List MemPlace} (hcs : W.cells? 0 ⟨b, o, none⟩ 2 = some cs) (h : DataW.trod enc Try.prog W 0 (fun _ => true) true n 35 cs = some y) :
    ∃ x : Int × Int, PrAt .i64 W b o x ∧ (Lit.int .i64 x.1).wf = true ∧ (Lit.int .i64 x.2).wf = true := by
  obtain ⟨_, hlen, hat⟩ := World.cells?_some hcs
  have hE : Try.prog.cellsOf 3 = 1 := by kernel_rfl
  obtain ⟨xs, m, _, _, _, hl, hg⟩ := DataW.trod_array Try.underlying35 h
  match cs, hlen with
  | [c0, c1], _ =>
    match xs, hl with
    | [y0, y1], _ =>
      have g0 : DataW.trod enc Try.prog W 0 (fun _ => true) true m 3 [c0] = some y0 := by simpa [hE] using hg 0 (by decide)
      have g1 : DataW.trod enc Try.prog W 0 (fun _ => true) true m 3 [c1] = some y1 := by simpa [hE] using hg 1 (by decide)
      obtain ⟨z0, e0, _, w0⟩ := DataW.trod_int Try.underlying3 g0
      obtain ⟨z1, e1, _, w1⟩ := DataW.trod_int Try.underlying3 g1
      obtain rfl : c0 = _ := List.singleton_inj.1 e0
      obtain rfl : c1 = _ := List.singleton_inj.1 e1
      refine ⟨(z0, z1), ⟨?_, ?_⟩, w0, w1⟩
      · have := hat 0 (by decide)
        rw [add_none] at this
        exact this
      · have := hat 1 (by decide)
        rw [add_none] at this
        exact this
set_option maxRecDepth 100000 in
theorem open_pri {n : Nat} {la : Option Addr} {len cap : Nat} {y : DataW H × List MemPlace} (h : DataW.trod enc Try.prog W 0 (fun _ => true) true n 22 [.slice la len cap] = some y) :
    ∃ os, Prs .i64 W (.slice la len cap) os ∧ os.length ≤ maxLen ∧ ∀ x ∈ os, (Lit.int .i64 x.1).wf = true ∧ (Lit.int .i64 x.2).wf = true := by
  rcases open_slice Try.underlying22 h with ⟨hcs, _⟩ | ⟨a, l, c, m, q, D, Pl, hcs, _, hl, hm, hmm, _, hi⟩
  · cases hcs
    exact ⟨[], ⟨none, 0, rfl, .inl rfl⟩, Nat.zero_le _, fun x hx => by cases hx⟩
  · cases hcs
    have hC : Try.prog.cellsOf 35 = 2 := by kernel_rfl
    rcases Nat.eq_zero_or_pos len with h0 | h0
    · subst h0
      exact ⟨[], ⟨some a, cap, rfl, .inl rfl⟩, Nat.zero_le _, fun x hx => by cases hx⟩
    · have hml : len ≤ m := by rw [hmm]; simpa using hl
      obtain ⟨b, off, spot⟩ := a
      have hspot : spot = none := by
        obtain ⟨cs', h1, _⟩ := hi 0 (by omega)
        rw [hC] at h1
        obtain ⟨_, hlen, hat⟩ := World.cells?_some h1
        have h2 := hat 0 (by decide)
        rw [List.getElem?_eq_getElem (by omega)] at h2
        simpa [Addr.add] using World.cell?_spot h2
      subst hspot
      obtain ⟨X, hX⟩ := choose_lt (n := len) (p := fun i x => PrAt .i64 W b (off + i * 2) x ∧ (Lit.int .i64 x.1).wf = true ∧ (Lit.int .i64 x.2).wf = true) (fun i hil => by
        obtain ⟨cs', h1, h2⟩ := hi i (by omega)
        rw [hC, add_none] at h1
        exact pr_open_pri h1 h2)
      refine ⟨(List.range len).map X, ⟨_, cap, by simp, .inr ⟨b, off, rfl, fun i x hx => ?_⟩⟩, by simpa using Nat.le_trans hl hm, fun x hx => ?_⟩
      · rw [List.getElem?_map] at hx
        obtain ⟨j, hj, rfl⟩ := Option.map_eq_some_iff.1 hx
        have hjl := List.getElem?_eq_some_iff.1 hj
        obtain ⟨h1, h2⟩ := hjl
        rw [List.getElem_range] at h2
        subst h2
        exact (hX _ (by simpa using h1)).1
      · obtain ⟨j, hj, rfl⟩ := List.mem_map.1 hx
        exact (hX j (by simpa using hj)).2
end
end Go.Proofs.Ytkbgococmkcjaaa
