/-
  The closure that tells of one tag after the other whether none ahead of it was the same; what All says of it.
-/
import Derived.Test.YtdhpemkmfkcadaaDoorMapK
import Derived.Test.YtdhpemkmfkcadaaDoorNamA
import Derived.Test.YtdhpemkmfkcadaaDoorNamH
namespace Go.Proofs.YtdhpemkmfkcadaaDoor
open Go.RowKit Go.ChangeMaps Go.WideShapes Go.Deep
set_option linter.unusedVariables false
set_option linter.unusedSimpArgs false

def strKey {P : Program} {k : TypeId} (hk : P.underlying k = some .string) : KeyK P k ByteArray where
  kv s := .string s
  kl s := .string s.data.toList
  ok s := s.size ≤ maxLen
  law := Go.Maps.string_keyed hk
  key s h := WideMaps.keyOf_string_mk hk h
  inv v l h := by obtain ⟨s, h1, h2, h3⟩ := WideMaps.string_of_keyOf hk h; exact ⟨s, h3, h1, h2⟩
  isK _ := trivial
  inj a b h := by injection h with h; exact ByteArray.ext (Array.toList_inj.1 h)
def unitElR : Value → Option (DataW Unit × List MemPlace)
  | .agg ⟨[]⟩ => some (.agg [], [])
  | _ => none
theorem unitElR_inv {v : Value} {y : DataW Unit × List MemPlace} (h : unitElR v = some y) : ∃ b : Unit, v = .agg #[] ∧ y = (.agg [], []) := by
  unfold unitElR at h
  split at h
  · cases h; exact ⟨(), rfl, rfl⟩
  · cases h
def unitEl : ElK Unit where
  R := unitElR
  ev _ := .agg #[]
  ed _ := .agg []
  el _ := rfl
  inv _ _ h := unitElR_inv h
  inj _ _ _ := rfl

/-- What the closure has seen. -/
def Seen (w : World) (b m : Nat) (M : List ByteArray) : Prop :=
  w.cell? ⟨b, 0, none⟩ = some (.map (some m)) ∧ m < b ∧ MapK (strKey (P := Tryd.prog) Tryd.underlying9) unitEl w m (M.map fun s => (s, ()))
/-- Is it among those? -/
def seenB (M : List ByteArray) (s : ByteArray) : Bool := M.any fun t => decide (t = s)
theorem seenB_iff {M : List ByteArray} {s : ByteArray} : seenB M s = true ↔ s ∈ M := by
  unfold seenB
  rw [List.any_eq_true]
  constructor
  · rintro ⟨t, ht, h⟩
    exact of_decide_eq_true h ▸ ht
  · intro h
    exact ⟨s, h, by simp⟩
theorem seen_get (M : List ByteArray) (s : ByteArray) : (getK (M.map fun s => (s, ())) s).isSome = seenB M s := by
  unfold getK
  rw [Option.isSome_map, Bool.eq_iff_iff, List.find?_isSome, seenB_iff]
  constructor
  · rintro ⟨p, hp, h⟩
    obtain ⟨t, ht, rfl⟩ := List.mem_map.1 hp
    have := of_decide_eq_true h
    simp only at this
    exact this ▸ ht
  · intro h
    exact ⟨(s, ()), List.mem_map.2 ⟨s, h, rfl⟩, by simp⟩
theorem seen_drop {M : List ByteArray} {s : ByteArray} (h : seenB M s = false) : dropK (M.map fun s => (s, ())) s = M.map fun s => (s, ()) := by
  refine dropK_none ?_
  have := seen_get M s
  rw [h] at this
  exact Option.isSome_eq_false_iff.1 this |> Option.isNone_iff_eq_none.1

set_option maxRecDepth 100000 in
theorem sees_any (B b m : Nat) (M : List ByteArray) (s : ByteArray) (w : World) (x : Bool) (h : Seen w b m M) (hs : s.size ≤ maxLen) (hl : M.length < maxLen) (hB : B ≤ m) (hx : seenB M s = x) :
    Calls Tryd.prog 31 #[.string s, .pointer (some ⟨b, 0, none⟩)] w fun e w' => e = .returned (.bool !x) ∧ Seen w' b m (if x = true then M else M ++ [s]) ∧ Below B w w' := by
  obtain ⟨hc, hmb, hm⟩ := h
  have hblt := World.block_lt_of_cell? _ _ hc
  have hz : (zeroValue 62).run Tryd.prog w = .ok (unitEl.ev ()) w := by kernel_rfl
  have hlk := hm.look (t := 61) (e := 62) Tryd.underlying61 hz s hs true
  rw [seen_get, hx] at hlk
  have hcA : ∀ o, (w.alloc o).cell? ⟨b, 0, none⟩ = some (.map (some m)) := fun o => by
    rw [World.cell?_alloc_old _ _ _ (Nat.ne_of_lt hblt)]; exact hc
  have hmA : ∀ o, MapK (strKey (P := Tryd.prog) Tryd.underlying9) unitEl (w.alloc o) m (M.map fun s => (s, ())) := fun o =>
    hm.heap ((Go.MapKept.heap_alloc w o).2 m hm.lt)
  have hBe : ∀ o, Below B w (w.alloc o) := fun o => (Below.refl _ _).alloc (by have := hm.lt; omega) _
  have HC := Lib.hid hc
  have HX := Lib.hid hx
  have HCA := Lib.hid hcA
  have HMA := Lib.hid hmA
  have HBE := Lib.hid hBe
  change (Instr.lookup _ (.map (some m)) (.string s) true).run Tryd.prog w = .ok (.tuple #[.agg #[], .bool x]) w at hlk
  cases x
  · obtain ⟨F, hF⟩ : ∃ F : Obj → World, ∀ o, (Instr.mapUpdate 61 (.map (some m)) (.string s) (.agg #[])).run Tryd.prog (w.alloc o) = .ok () (F o) ∧ MapK (strKey (P := Tryd.prog) Tryd.underlying9) unitEl (F o) m ((M ++ [s]).map fun s => (s, ())) ∧ (F o).cell? ⟨b, 0, none⟩ = some (.map (some m)) ∧ Below B w (F o) := by
      have h1 : ∀ o, ∃ w', (Instr.mapUpdate 61 (.map (some m)) (.string s) (.agg #[])).run Tryd.prog (w.alloc o) = .ok () w' ∧ MapK (strKey (P := Tryd.prog) Tryd.underlying9) unitEl w' m ((M ++ [s]).map fun s => (s, ())) ∧ w'.cell? ⟨b, 0, none⟩ = some (.map (some m)) ∧ Below B w w' := by
        intro o
        obtain ⟨w', a1, a2, a3, _⟩ := (hmA o).store (t := 61) (e := 62) Tryd.underlying61 s hs () (by rw [List.length_map]; exact hl)
        rw [seen_drop hx] at a2
        refine ⟨w', a1, by rw [List.map_append]; exact a2, ?_, below_grown' (hBe o) a3 (Nat.le_of_lt (Nat.lt_of_le_of_lt hB (Nat.lt_trans hmb hblt))) hB⟩
        have h5 := World.block_lt_of_cell? _ _ (hcA o)
        have h4 := a3.block b h5 (by intro e; injection e with e; omega)
        have h6 := hcA o
        unfold World.cell? at h6 ⊢
        rw [h4]
        exact h6
      exact ⟨fun o => Classical.choose (h1 o), fun o => Classical.choose_spec (h1 o)⟩
    have hst := fun o => (hF o).1
    have HF := Lib.hid hF
    clear hm hx hmA hF hBe
    go_enter Tryd.func31, Tryd.ntmps31
    go_wp2_with fail
    go_ret
    obtain ⟨_, h2, h3, h4⟩ := HF.out (.cells _ _)
    exact ⟨rfl, ⟨h3, hmb, h2⟩, h4⟩
  · clear hm hx hmA hBe
    go_enter Tryd.func31, Tryd.ntmps31
    go_wp2_with fail
    go_ret
    exact ⟨rfl, ⟨HCA.out _, hmb, HMA.out _⟩, HBE.out _⟩
end Go.Proofs.YtdhpemkmfkcadaaDoor
