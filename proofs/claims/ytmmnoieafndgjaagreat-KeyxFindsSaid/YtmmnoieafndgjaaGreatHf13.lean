/-
  Part 13: what the statement needs of these texts: KOps.
-/
import Derived.BigQuiet
import Derived.ChangeSame
import Derived.Deep.Grids
import Derived.Deep.OwnRows
import Derived.Deep.QuietTactic
import Derived.Lib.Hide
import Derived.Lib.SmallJoins
import Derived.OpenShut
import Derived.ProofKit
import Derived.SliceStrings
import Derived.Test.YtmmnoieafndgjaaGreatRows
import Derived.WalkKit
import Derived.WalkLawsBesides
import Derived.WalkSpells
import Derived.Test.YtmmnoieafndgjaaGreatHf5
namespace Go.Proofs.YtmmnoieafndgjaaGreat
open Go.Joins Go.RowKit Go.Deep
open Go.ChangeShapes Go.WideShapes
set_option linter.unusedVariables false
set_option linter.unusedSimpArgs false

/-- A key, and where its record lies, and when it was born. -/
structure AdM where
  t : ByteArray
  k : ByteArray
  x : Int
  y : Int
instance : Inhabited AdM := ⟨⟨⟨#[]⟩, ⟨#[]⟩, 0, 0⟩⟩
def AdM.cells (a : AdM) : List Value := [.string a.t, .string a.k, .int .i64 a.x, .int .i64 a.y]
def AdAt (W : World) (b o : Nat) (a : AdM) : Prop := ∀ j, j < 4 → W.cell? ⟨b, o + j, none⟩ = a.cells[j]?
def Ads (W : World) (v : Value) (os : List AdM) : Prop := ∃ a cap, v = .slice a os.length cap ∧ (os = [] ∨ ∃ b o, a = some ⟨b, o, none⟩ ∧ ∀ i x, os[i]? = some x → AdAt W b (o + i * 4) x)
section
variable {H : Type} {enc : TypeId × Value → H} {W : World}
set_option maxRecDepth 100000 in
theorem ad_open {n : Nat} {b o : Nat} {cs : List Value} {y : DataW H × List MemPlace} (hcs : W.cells? 0 ⟨b, o, none⟩ 4 = some cs) (h : DataW.trod enc Tryz.prog W 0 (fun _ => true) true n 24 cs = some y) :
    ∃ x : AdM, AdAt W b o x := by
  obtain ⟨_, hlen, hat⟩ := World.cells?_some hcs
  obtain ⟨xs, m, _, _, _, hxl, hf⟩ := DataW.trod_struct Tryz.underlying24 h
  match cs, hlen with
  | [c0, c1, c2, c3], _ =>
    have hx : xs.length = 4 := hxl
    match xs, hx with
    | [y0, y1, y2, y3], _ =>
      have f0 : DataW.trod enc Tryz.prog W 0 (fun _ => true) true m 9 [c0] = some y0 := hf 0 _ rfl
      have f1 : DataW.trod enc Tryz.prog W 0 (fun _ => true) true m 9 [c1] = some y1 := hf 1 _ rfl
      have f2 : DataW.trod enc Tryz.prog W 0 (fun _ => true) true m 3 [c2] = some y2 := hf 2 _ rfl
      have f3 : DataW.trod enc Tryz.prog W 0 (fun _ => true) true m 3 [c3] = some y3 := hf 3 _ rfl
      obtain ⟨t, e0, _, _⟩ := DataW.trod_string Tryz.underlying9 f0
      obtain ⟨k, e1, _, _⟩ := DataW.trod_string Tryz.underlying9 f1
      obtain ⟨p, e2, _, _⟩ := DataW.trod_int Tryz.underlying3 f2
      obtain ⟨q, e3, _, _⟩ := DataW.trod_int Tryz.underlying3 f3
      obtain rfl : c0 = _ := List.singleton_inj.1 e0
      obtain rfl : c1 = _ := List.singleton_inj.1 e1
      obtain rfl : c2 = _ := List.singleton_inj.1 e2
      obtain rfl : c3 = _ := List.singleton_inj.1 e3
      refine ⟨⟨t, k, p, q⟩, fun j hj => ?_⟩
      have := hat j hj
      rw [add_none] at this
      exact this
set_option maxRecDepth 100000 in
theorem open_ads {n : Nat} {la : Option Addr} {len cap : Nat} {y : DataW H × List MemPlace} (h : DataW.trod enc Tryz.prog W 0 (fun _ => true) true n 22 [.slice la len cap] = some y) :
    ∃ os, Ads W (.slice la len cap) os ∧ os.length ≤ maxLen ∧ True := by
  rcases open_slice Tryz.underlying22 h with ⟨hcs, _⟩ | ⟨a, l, c, m, q, D, Pl, hcs, _, hl, hm, hmm, _, hi⟩
  · cases hcs
    exact ⟨[], ⟨none, 0, rfl, .inl rfl⟩, Nat.zero_le _, trivial⟩
  · cases hcs
    have hC : Tryz.prog.cellsOf 24 = 4 := by kernel_rfl
    rcases Nat.eq_zero_or_pos len with h0 | h0
    · subst h0
      exact ⟨[], ⟨some a, cap, rfl, .inl rfl⟩, Nat.zero_le _, trivial⟩
    · have hml : len ≤ m := by rw [hmm]; simpa using hl
      obtain ⟨b, off, spot⟩ := a
      have hspot : spot = none := by
        obtain ⟨cs', h1, _⟩ := hi 0 (by omega)
        rw [hC] at h1
        obtain ⟨_, hlen, hat⟩ := World.cells?_some h1
        have h2 := hat 0 (by decide)
        rw [List.getElem?_eq_getElem (by omega)] at h2
        simpa [Addr.add] using World.cell?_spot h2
      subst hspot
      obtain ⟨X, hX⟩ := choose_lt (n := len) (p := fun i x => AdAt W b (off + i * 4) x) (fun i hil => by
        obtain ⟨cs', h1, h2⟩ := hi i (by omega)
        rw [hC, add_none] at h1
        exact ad_open h1 h2)
      refine ⟨(List.range len).map X, ⟨_, cap, by simp, .inr ⟨b, off, rfl, fun i x hx => ?_⟩⟩, by simpa using Nat.le_trans hl hm, trivial⟩
      rw [List.getElem?_map] at hx
      obtain ⟨j, hj, rfl⟩ := Option.map_eq_some_iff.1 hx
      have hjl := List.getElem?_eq_some_iff.1 hj
      obtain ⟨h1, h2⟩ := hjl
      rw [List.getElem_range] at h2
      subst h2
      exact hX _ (by simpa using h1)
end
end Go.Proofs.YtmmnoieafndgjaaGreat

