/- A part. -/
import Derived.Deep.Grids
import Derived.Lib.SmallJoins
import Derived.Test.YtedmfhcjcloolaaPco10
set_option linter.unusedVariables false
set_option linter.unusedSimpArgs false
namespace Go.Proofs.Ytedmfhcjcloolaa
open Go.Joins Go.RowKit Go.Deep
open Go.ChangeShapes Go.WideShapes
structure POp where
  id : Int
  kind : Int
  due : Int
  ref : Int
  trim : Bool
instance : Inhabited POp := ⟨⟨0, 0, 0, 0, false⟩⟩
structure POpAt (W : World) (b o : Nat) (x : POp) : Prop where
  c0 : W.cell? ⟨b, o, none⟩ = some (.int .i64 x.id)
  c1 : W.cell? ⟨b, o + 1, none⟩ = some (.int .i64 x.kind)
  c2 : W.cell? ⟨b, o + 2, none⟩ = some (.int .i64 x.due)
  c3 : W.cell? ⟨b, o + 3, none⟩ = some (.int .i64 x.ref)
  c4 : W.cell? ⟨b, o + 4, none⟩ = some (.bool x.trim)
def POps (W : World) (v : Value) (os : List POp) : Prop := ∃ a cap, v = .slice a os.length cap ∧ (os = [] ∨ ∃ b o, a = some ⟨b, o, none⟩ ∧ ∀ i x, os[i]? = some x → POpAt W b (o + i * 5) x)
theorem pkeep {w w' : World} (hb : Below w.heap.size w w') {p : Addr} {v : Value} (h : w.cell? p = some v) : w'.cell? p = some v := (hb.cell (World.block_lt_of_cell? _ _ h)).trans h
theorem POps.form {W : World} {v : Value} {os : List POp} (h : POps W v os) : ∃ a cap, v = .slice a os.length cap := by
  obtain ⟨a, cap, e, _⟩ := h
  exact ⟨a, cap, e⟩
theorem POps.at_ {W : World} {a : Option Addr} {n cap k : Nat} {os : List POp} {x : POp} (h : POps W (.slice a n cap) os) (hk : os[k]? = some x) : ∃ b o, a = some ⟨b, o, none⟩ ∧ POpAt W b (o + k * 5) x := by
  obtain ⟨a', cap', e, h⟩ := h
  cases e
  rcases h with h | ⟨b, o, e, h⟩
  · rw [h] at hk; cases hk
  · exact ⟨b, o, e, h k _ hk⟩
theorem POps.below {w w' : World} {v : Value} {os : List POp} (h : POps w v os) (hb : Below w.heap.size w w') : POps w' v os := by
  obtain ⟨a, cap, e, h⟩ := h
  refine ⟨a, cap, e, h.imp id ?_⟩
  rintro ⟨b, o, e2, h⟩
  refine ⟨b, o, e2, fun i x hx => ?_⟩
  obtain ⟨h1, h2, h3, h4, h5⟩ := h i x hx
  exact ⟨pkeep hb h1, pkeep hb h2, pkeep hb h3, pkeep hb h4, pkeep hb h5⟩
section
variable {H : Type} {enc : TypeId × Value → H} {W : World}
set_option maxRecDepth 100000 in
theorem pr_open_pop {n : Nat} {b o : Nat} {cs : List Value} {y : DataW H × List MemPlace} (hcs : W.cells? 0 ⟨b, o, none⟩ 5 = some cs) (h : DataW.trod enc Try.prog W 0 (fun _ => true) true n 27 cs = some y) :
    ∃ x : POp, POpAt W b o x ∧ (Lit.int .i64 x.id).wf = true ∧ (Lit.int .i64 x.ref).wf = true := by
  obtain ⟨_, hlen, hat⟩ := World.cells?_some hcs
  obtain ⟨xs, m, _, _, _, hl, hg⟩ := DataW.trod_struct Try.underlying27 h
  match cs, hlen with
  | [c0, c1, c2, c3, c4], _ =>
    have hx : xs.length = 5 := hl
    match xs, hx with
    | [y0, y1, y2, y3, y4], _ =>
      have g0 : DataW.trod enc Try.prog W 0 (fun _ => true) true m 3 [c0] = some y0 := hg 0 _ rfl
      have g1 : DataW.trod enc Try.prog W 0 (fun _ => true) true m 3 [c1] = some y1 := hg 1 _ rfl
      have g2 : DataW.trod enc Try.prog W 0 (fun _ => true) true m 3 [c2] = some y2 := hg 2 _ rfl
      have g3 : DataW.trod enc Try.prog W 0 (fun _ => true) true m 3 [c3] = some y3 := hg 3 _ rfl
      have g4 : DataW.trod enc Try.prog W 0 (fun _ => true) true m 4 [c4] = some y4 := hg 4 _ rfl
      obtain ⟨z0, e0, _, w0⟩ := DataW.trod_int Try.underlying3 g0
      obtain ⟨z1, e1, _, w1⟩ := DataW.trod_int Try.underlying3 g1
      obtain ⟨z2, e2, _, w2⟩ := DataW.trod_int Try.underlying3 g2
      obtain ⟨z3, e3, _, w3⟩ := DataW.trod_int Try.underlying3 g3
      obtain ⟨z4, e4, _⟩ := DataW.trod_bool Try.underlying4 g4
      obtain rfl : c0 = _ := List.singleton_inj.1 e0
      obtain rfl : c1 = _ := List.singleton_inj.1 e1
      obtain rfl : c2 = _ := List.singleton_inj.1 e2
      obtain rfl : c3 = _ := List.singleton_inj.1 e3
      obtain rfl : c4 = _ := List.singleton_inj.1 e4
      refine ⟨⟨z0, z1, z2, z3, z4⟩, ⟨?_, ?_, ?_, ?_, ?_⟩, w0, w3⟩
      · have := hat 0 (by decide)
        rw [add_none] at this
        exact this
      · have := hat 1 (by decide)
        rw [add_none] at this
        exact this
      · have := hat 2 (by decide)
        rw [add_none] at this
        exact this
      · have := hat 3 (by decide)
        rw [add_none] at this
        exact this
      · have := hat 4 (by decide)
        rw [add_none] at this
        exact this
set_option maxRecDepth 100000 in
theorem open_pop {n : Nat} {la : Option Addr} {len cap : Nat} {y : DataW H × List MemPlace} (h : DataW.trod enc Try.prog W 0 (fun _ => true) true n 22 [.slice la len cap] = some y) :
    ∃ os, POps W (.slice la len cap) os ∧ os.length ≤ maxLen ∧ ∀ x ∈ os, (Lit.int .i64 x.id).wf = true ∧ (Lit.int .i64 x.ref).wf = true := by
  rcases open_slice Try.underlying22 h with ⟨hcs, _⟩ | ⟨a, l, c, m, q, D, Pl, hcs, _, hl, hm, hmm, _, hi⟩
  · cases hcs
    exact ⟨[], ⟨none, 0, rfl, .inl rfl⟩, Nat.zero_le _, fun x hx => by cases hx⟩
  · cases hcs
    have hC : Try.prog.cellsOf 27 = 5 := by kernel_rfl
    rcases Nat.eq_zero_or_pos len with h0 | h0
    · subst h0
      exact ⟨[], ⟨some a, cap, rfl, .inl rfl⟩, Nat.zero_le _, fun x hx => by cases hx⟩
    · have hml : len ≤ m := by rw [hmm]; simpa using hl
      obtain ⟨b, off, spot⟩ := a
      have hspot : spot = none := by
        obtain ⟨cs', h1, _⟩ := hi 0 (by omega)
        rw [hC] at h1
        obtain ⟨_, hlen, hat⟩ := World.cells?_some h1
        have h2 := hat 0 (by decide)
        rw [List.getElem?_eq_getElem (by omega)] at h2
        simpa [Addr.add] using World.cell?_spot h2
      subst hspot
      obtain ⟨X, hX⟩ := choose_lt (n := len) (p := fun i x => POpAt W b (off + i * 5) x ∧ (Lit.int .i64 x.id).wf = true ∧ (Lit.int .i64 x.ref).wf = true) (fun i hil => by
        obtain ⟨cs', h1, h2⟩ := hi i (by omega)
        rw [hC, add_none] at h1
        exact pr_open_pop h1 h2)
      refine ⟨(List.range len).map X, ⟨_, cap, by simp, .inr ⟨b, off, rfl, fun i x hx => ?_⟩⟩, by simpa using Nat.le_trans hl hm, fun x hx => ?_⟩
      · rw [List.getElem?_map] at hx
        obtain ⟨j, hj, rfl⟩ := Option.map_eq_some_iff.1 hx
        have hjl := List.getElem?_eq_some_iff.1 hj
        obtain ⟨h1, h2⟩ := hjl
        rw [List.getElem_range] at h2
        subst h2
        exact (hX _ (by simpa using h1)).1
      · obtain ⟨j, hj, rfl⟩ := List.mem_map.1 hx
        exact (hX j (by simpa using hj)).2
end
end Go.Proofs.Ytedmfhcjcloolaa
