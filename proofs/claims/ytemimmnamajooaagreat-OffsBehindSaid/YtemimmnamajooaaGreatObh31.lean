/- A part. -/
import Derived.Deep.Grids
import Derived.Lib.SmallJoins
import Derived.Test.YtemimmnamajooaaGreatObh29
set_option linter.unusedVariables false
set_option linter.unusedSimpArgs false
namespace Go.Proofs.YtemimmnamajooaaGreat
open Go.Joins Go.RowKit Go.Deep
open Go.ChangeShapes Go.WideShapes
instance : Inhabited OfM := ⟨⟨⟨#[]⟩, ⟨#[]⟩, 0, 0⟩⟩
def OWf (x : OfM) : Prop := (Lit.int .i64 x.q).wf = true ∧ (Lit.int .i64 x.a).wf = true ∧ x.g.size ≤ maxLen ∧ x.t.size ≤ maxLen
theorem wf_in {a : Int} (h : (Lit.int .i64 a).wf = true) : a ≤ 9223372036854775807 ∧ -9223372036854775808 ≤ a := by
  have h2 : IntKind.i64.min ≤ a ∧ a ≤ IntKind.i64.max := by simpa [Lit.wf] using h
  have h3 : IntKind.i64.max = 9223372036854775807 := rfl
  have h4 : IntKind.i64.min = -9223372036854775808 := rfl
  omega
section
variable {H : Type} {enc : TypeId × Value → H} {W : World}
set_option maxRecDepth 100000 in
theorem off_open {n : Nat} {b o : Nat} {cs : List Value} {y : DataW H × List MemPlace} (hcs : W.cells? 0 ⟨b, o, none⟩ 4 = some cs) (h : DataW.trod enc Tryz.prog W 0 (fun _ => true) true n 32 cs = some y) :
    ∃ x : OfM, OCell W b o x ∧ OWf x := by
  obtain ⟨_, hlen, hat⟩ := World.cells?_some hcs
  obtain ⟨xs, m, _, _, _, hxl, hf⟩ := DataW.trod_struct Tryz.underlying32 h
  match cs, hlen with
  | [c0, c1, c2, c3], _ =>
    have hx : xs.length = 4 := hxl
    match xs, hx with
    | [y0, y1, y2, y3], _ =>
      have f0 : DataW.trod enc Tryz.prog W 0 (fun _ => true) true m 9 [c0] = some y0 := hf 0 _ rfl
      have f1 : DataW.trod enc Tryz.prog W 0 (fun _ => true) true m 9 [c1] = some y1 := hf 1 _ rfl
      have f2 : DataW.trod enc Tryz.prog W 0 (fun _ => true) true m 3 [c2] = some y2 := hf 2 _ rfl
      have f3 : DataW.trod enc Tryz.prog W 0 (fun _ => true) true m 3 [c3] = some y3 := hf 3 _ rfl
      obtain ⟨t0, e0, _, hs0⟩ := DataW.trod_string Tryz.underlying9 f0
      obtain ⟨t1, e1, _, hs1⟩ := DataW.trod_string Tryz.underlying9 f1
      obtain ⟨p2, e2, _, hw2⟩ := DataW.trod_int Tryz.underlying3 f2
      obtain ⟨p3, e3, _, hw3⟩ := DataW.trod_int Tryz.underlying3 f3
      obtain rfl : c0 = _ := List.singleton_inj.1 e0
      obtain rfl : c1 = _ := List.singleton_inj.1 e1
      obtain rfl : c2 = _ := List.singleton_inj.1 e2
      obtain rfl : c3 = _ := List.singleton_inj.1 e3
      have k : ∀ j u, j < 4 → [Value.string t0, Value.string t1, Value.int .i64 p2, Value.int .i64 p3][j]? = some u → W.cell? ⟨b, o + j, none⟩ = some u := fun j u hj hu => by
        have := hat j hj
        rw [vadd_none] at this
        rw [this]; exact hu
      exact ⟨⟨t0, t1, p2, p3⟩, ⟨k 0 _ (by decide) rfl, k 1 _ (by decide) rfl, k 2 _ (by decide) rfl, k 3 _ (by decide) rfl⟩, hw2, hw3, hs0, hs1⟩
set_option maxRecDepth 100000 in
theorem open_offs {n : Nat} {la : Option Addr} {len cap : Nat} {y : DataW H × List MemPlace} (h : DataW.trod enc Tryz.prog W 0 (fun _ => true) true n 30 [.slice la len cap] = some y) :
    ∃ os, OArg W (.slice la len cap) os ∧ os.length ≤ maxLen ∧ ∀ x ∈ os, OWf x := by
  rcases open_slice Tryz.underlying30 h with ⟨hcs, _⟩ | ⟨a, l, c, m, q, D, Pl, hcs, _, hl, hm, hmm, _, hi⟩
  · cases hcs
    exact ⟨[], ⟨none, 0, rfl, Nat.le_refl _, .inl rfl⟩, Nat.zero_le _, fun x hx => by cases hx⟩
  · cases hcs
    have hC : Tryz.prog.cellsOf 32 = 4 := by kernel_rfl
    rcases Nat.eq_zero_or_pos len with h0 | h0
    · subst h0
      exact ⟨[], ⟨some a, cap, rfl, Nat.zero_le _, .inl rfl⟩, Nat.zero_le _, fun x hx => by cases hx⟩
    · have hml : len ≤ m := by rw [hmm]; simpa using hl
      obtain ⟨b, off, spot⟩ := a
      have hspot : spot = none := by
        obtain ⟨cs', h1, _⟩ := hi 0 (by omega)
        rw [hC] at h1
        obtain ⟨_, hlen, hat⟩ := World.cells?_some h1
        have h2 := hat 0 (by decide)
        rw [List.getElem?_eq_getElem (by omega)] at h2
        simpa [Addr.add] using World.cell?_spot h2
      subst hspot
      obtain ⟨X, hX⟩ := choose_lt (n := len) (p := fun i x => OCell W b (off + i * 4) x ∧ OWf x) (fun i hil => by
        obtain ⟨cs', h1, h2⟩ := hi i (by omega)
        rw [hC, vadd_none] at h1
        exact off_open h1 h2)
      refine ⟨(List.range len).map X, ⟨_, cap, by simp, by simpa using hl, .inr ⟨b, off, rfl, fun i x hx => ?_⟩⟩, by simpa using Nat.le_trans hl hm, fun x hx => ?_⟩
      rotate_left
      · obtain ⟨i, hi2, rfl⟩ := List.mem_map.1 hx
        exact (hX i (List.mem_range.1 hi2)).2
      rw [List.getElem?_map] at hx
      obtain ⟨j, hj, rfl⟩ := Option.map_eq_some_iff.1 hx
      obtain ⟨h1, h2⟩ := List.getElem?_eq_some_iff.1 hj
      rw [List.getElem_range] at h2
      subst h2
      exact (hX _ (by simpa using h1)).1
end
end Go.Proofs.YtemimmnamajooaaGreat
