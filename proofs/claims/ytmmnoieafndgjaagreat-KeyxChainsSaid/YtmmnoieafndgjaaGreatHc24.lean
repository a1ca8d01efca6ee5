/-
  Part 24: what the statement needs of these texts: KMap.
-/
import Derived.BigQuiet
import Derived.Deep.OwnRows
import Derived.Deep.QuietTactic
import Derived.Deep.RegionHeld3
import Derived.Laws.CopyOwn
import Derived.Lib.AppendStr
import Derived.Lib.AppendZerosOnto
import Derived.Lib.BufferWrite
import Derived.Lib.Builder
import Derived.Lib.Hide
import Derived.Lib.Slices
import Derived.Lib.Strings
import Derived.Lib.UnsafeStr
import Derived.Maps.OwnSet
import Derived.Maps.RangeWalk
import Derived.ProofKit
import Derived.RowKit
import Derived.Shelf.Slices.In.SortNone
import Derived.Shelf.Small.Wraps
import Derived.Shelf.Sort.Plain
import Derived.Shelf.Strings.Builder1
import Derived.Shelf.Strings.Prefix
import Derived.Shelf.Strings.Repeat
import Derived.StringKeys
import Derived.Test.YtmmnoieafndgjaaGreatProg
import Derived.Test.YtmmnoieafndgjaaGreatRows
import Derived.WalkKit
import Derived.WalkLawsBesides
import Derived.WalkSpells
import Derived.Test.YtmmnoieafndgjaaGreatHc1
import Derived.Test.YtmmnoieafndgjaaGreatHc2
import Derived.Test.YtmmnoieafndgjaaGreatHc3
import Derived.Test.YtmmnoieafndgjaaGreatHc4
import Derived.Test.YtmmnoieafndgjaaGreatHc5
import Derived.Test.YtmmnoieafndgjaaGreatHc8
import Derived.Test.YtmmnoieafndgjaaGreatHc10
import Derived.Test.YtmmnoieafndgjaaGreatHc12
import Derived.Test.YtmmnoieafndgjaaGreatHc21
import Derived.Test.YtmmnoieafndgjaaGreatHc22
import Derived.Test.YtmmnoieafndgjaaGreatHc23
namespace Go.Proofs.YtmmnoieafndgjaaGreat
open Go.RowKit Go.Deep Go.WideShapes
set_option linter.unusedVariables false
set_option linter.unusedSimpArgs false

def boolElR : Value → Option (DataW Unit × List MemPlace)
  | .bool b => some (.lit (.bool b), [])
  | _ => none
theorem boolElR_inv {v : Value} {y : DataW Unit × List MemPlace} (h : boolElR v = some y) : ∃ b : Bool, v = .bool b ∧ y = (.lit (.bool b), []) := by
  unfold boolElR at h
  split at h
  · cases h; exact ⟨_, rfl, rfl⟩
  · cases h
def boolEl : ElK Bool where
  R := boolElR
  ev b := .bool b
  ed b := .lit (.bool b)
  el _ := rfl
  inv _ _ h := boolElR_inv h
  inj a b h := by injection h with h; injection h
noncomputable def nK : KeyK Tryz.prog 3 Int := intKey Tryz.underlying3
theorem bool_zero (w : World) : (zeroValue 4).run Tryz.prog w = .ok (boolEl.ev false) w := by kernel_rfl
section
variable {w : World} {ops : Array Oper} {rest : List Oper} {o : Oper} {a : Act} {Q : Exit → Act → World → Prop}
theorem wpList_store_ib (hg : o.guard = none) (m x v : Operand) (hop : o.op = Op.mapUpdate 42 m x v) (mm : Nat) (M : List (Int × Bool)) (p : Int) (l : Bool)
    (hm : a.eval m = .map (some mm)) (hx : a.eval x = .int .i64 p) (hv : a.eval v = .bool l) (h : MapK nK boolEl w mm M) (hp : (Lit.int .i64 p).wf = true) (hn : M.length < maxLen)
    (hK : ∀ w', MapK nK boolEl w' mm (dropK M p ++ [(p, l)]) → w.grownBy w' (some mm) → w'.heap.size = w.heap.size → wpList Tryz.prog ops Q rest (a.put o.dst undef) w') : wpList Tryz.prog ops Q (o :: rest) a w := by
  refine wpList_plain hg fun K' hK' => ?_
  obtain ⟨w', hrun, r1, r2, r3⟩ := h.store (t := 42) (e := 4) Tryz.underlying42 p hp l hn
  have hrun : (Instr.mapUpdate 42 (.map (some mm)) (.int .i64 p) (.bool l)).run Tryz.prog w = .ok () w' := hrun
  unfold Oper.wp
  simp [execOp, hop, hm, hx, hv, hrun, Result.andThen]
  exact hK' _ _ (hK w' r1 r2 r3)
end
/-- What was seen. -/
def onesM (l : List Int) : List (Int × Bool) := l.map fun n => (n, true)
theorem ones_get {l : List Int} {n : Int} (h : n ∉ l) : getK (onesM l) n = none := by
  refine getK_not fun p hp => ?_
  obtain ⟨x, hx, rfl⟩ := List.mem_map.1 hp
  exact fun e => h (e ▸ hx)
theorem ones_put {l : List Int} {n : Int} (h : n ∉ l) : dropK (onesM l) n ++ [(n, true)] = onesM (l ++ [n]) := by
  rw [dropK_none (ones_get h)]
  unfold onesM
  rw [List.map_append]
  rfl
theorem chain_in : ∀ (b : Nat) (R : List KE) (n : Int), n ∈ chainL b R → 1 ≤ n ∧ n ≤ R.length
  | _, [], _, h => by cases h
  | b, k :: r, n, h => by
    rw [chainL] at h
    split at h
    · rcases List.mem_cons.1 h with rfl | h
      · rw [List.length_cons]; omega
      · have := chain_in b r n h; rw [List.length_cons]; omega
    · have := chain_in b r n h; rw [List.length_cons]; omega
theorem chain_falls : ∀ (b : Nat) (R : List KE), (chainL b R).Pairwise (fun x y => y < x)
  | _, [] => List.Pairwise.nil
  | b, k :: r => by
    rw [chainL]
    split
    · refine List.pairwise_cons.2 ⟨fun y hy => ?_, chain_falls b r⟩
      have := chain_in b r y hy
      omega
    · exact chain_falls b r
theorem chain_apart : ∀ (R : List KE) {b c : Nat} {n : Int}, n ∈ chainL b R → n ∈ chainL c R → b = c
  | [], _, _, _, h, _ => by cases h
  | k :: r, b, c, n, h1, h2 => by
    rw [chainL] at h1 h2
    split at h1 <;> split at h2
    · omega
    · rcases List.mem_cons.1 h1 with rfl | h1
      · have := chain_in c r _ h2; omega
      · exact chain_apart r h1 h2
    · rcases List.mem_cons.1 h2 with rfl | h2
      · have := chain_in b r _ h1; omega
      · exact chain_apart r h1 h2
    · exact chain_apart r h1 h2
/-- All numbers of the first so many buckets. -/
def seenL (b : Nat) (R : List KE) : List Int := (List.range b).flatMap fun c => chainL c R
theorem seen_succ (b : Nat) (R : List KE) : seenL (b + 1) R = seenL b R ++ chainL b R := by
  unfold seenL
  rw [List.range_succ, List.flatMap_append]
  simp
theorem seen_not {b : Nat} {R : List KE} {n : Int} (h : n ∈ chainL b R) : n ∉ seenL b R := fun hx => by
  obtain ⟨c, hc, h2⟩ := List.mem_flatMap.1 hx
  have := chain_apart R h h2
  have := List.mem_range.1 hc
  omega
theorem seen_len (R : List KE) : (seenL 8 R).length = R.length := by
  have e : seenL 8 R = chainL 0 R ++ (chainL 1 R ++ (chainL 2 R ++ (chainL 3 R ++ (chainL 4 R ++ (chainL 5 R ++ (chainL 6 R ++ (chainL 7 R))))))) := by
    simp [seenL, List.range_succ]
  rw [e]
  simp only [List.length_append]
  induction R with
  | nil => rfl
  | cons k r ih =>
    have hl : ∀ b, (chainL b (k :: r)).length = (chainL b r).length + if k.h % 8 = b then 1 else 0 := fun b => by
      rw [chainL]
      split <;> simp
    simp only [hl, List.length_cons]
    have hlt : k.h % 8 < 8 := Nat.mod_lt _ (by decide)
    have ih := ih (by simp [seenL, List.range_succ])
    rcases (show k.h % 8 = 0 ∨ k.h % 8 = 1 ∨ k.h % 8 = 2 ∨ k.h % 8 = 3 ∨ k.h % 8 = 4 ∨ k.h % 8 = 5 ∨ k.h % 8 = 6 ∨ k.h % 8 = 7 by omega) with h | h | h | h | h | h | h | h <;> simp only [h] <;> simp <;> omega
theorem seen_mono (b : Nat) (R : List KE) : ∀ d, (seenL b R).length ≤ (seenL (b + d) R).length
  | 0 => Nat.le_refl _
  | d + 1 => by
    rw [← Nat.add_assoc, seen_succ, List.length_append]
    have := seen_mono b R d
    omega
theorem seen_le {b : Nat} (h : b < 8) (R : List KE) : (seenL b R).length + (chainL b R).length ≤ R.length := by
  have h1 := seen_mono (b + 1) R (7 - b)
  rw [show b + 1 + (7 - b) = 8 by omega, seen_len, seen_succ, List.length_append] at h1
  exact h1
theorem not_in_take {l : List Int} (hp : l.Pairwise (fun x y => y < x)) {j : Nat} {n : Int} (h : l[j]? = some n) : n ∉ l.take j := fun hx => by
  obtain ⟨i, hi⟩ := List.getElem?_of_mem hx
  rw [List.getElem?_take] at hi
  split at hi
  · rename_i hij
    obtain ⟨hil, hie⟩ := List.getElem?_eq_some_iff.1 hi
    obtain ⟨hjl, hje⟩ := List.getElem?_eq_some_iff.1 h
    have := List.pairwise_iff_getElem.1 hp i j hil hjl hij
    omega
  · cases hi
end Go.Proofs.YtmmnoieafndgjaaGreat

