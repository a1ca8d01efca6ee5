/- A part. -/
import Derived.Deep.OwnRows
import Derived.Test.YtkbgococmkcjaaaWtu2
set_option linter.unusedVariables false
set_option linter.unusedSimpArgs false
namespace Go.Proofs.Ytkbgococmkcjaaa.Oc
open Go.RowKit Go.Deep
def Strs (w : World) (base : Nat) (v : Value) (ts : List ByteArray) : Prop :=
  ∃ a cap, v = .slice a ts.length cap ∧ (ts = [] ∨ ∃ b o, a = some ⟨b, o, none⟩ ∧ base ≤ b ∧ ∀ i, i < ts.length → w.cell? ⟨b, o + i, none⟩ = some (.string (ts.getD i ⟨#[]⟩)))
theorem Strs.kept {w w' : World} {base : Nat} {v : Value} {ts : List ByteArray} (h : Strs w base v ts) {r : Option Nat} (hg : w.grownBy w' r) (hr : ∀ k, r = some k → k < base) : Strs w' base v ts := by
  obtain ⟨a, cap, rfl, h⟩ := h
  refine ⟨a, cap, rfl, ?_⟩
  rcases h with h | ⟨b, o, rfl, hb, h⟩
  · exact .inl h
  · exact .inr ⟨b, o, rfl, hb, fun i hi => hg.cell (h i hi) (fun e => by have := hr _ e.symm; simp at this; omega)⟩
theorem Rd.same {w w' : World} {b : Nat} {s : ByteArray} {e : Int} (h : Rd w b s e) (hg : w.grownBy w' none) : Rd w' b s e := by
  unfold Rd; rw [hg.block b h.lt (by simp)]; exact h
theorem grownBy_wide {a b : World} (h : a.grownBy b none) (r : Option Nat) : a.grownBy b r := ⟨h.os, h.tape, h.output, h.size, fun k hk _ => h.block k hk (by simp)⟩
def numB : Nat → Nat → List UInt8
  | 0, _ => []
  | n + 1, x => UInt8.ofNat (x / 256 ^ n) :: numB n x
def by8 (c : UInt8) : Value := .int .u8 c.toNat
def IntsOf (k : IntKind) (w : World) (v : Value) (zs : List Int) : Prop :=
  ∃ a cap, v = .slice a zs.length cap ∧ (zs = [] ∨ ∃ b o, a = some ⟨b, o, none⟩ ∧ ∀ i, i < zs.length → w.cell? ⟨b, o + i, none⟩ = some (.int k (zs.getD i 0)))
def FitN (n : Nat) (x : Int) : Prop := 0 ≤ x ∧ x < 256 ^ n
instance (n : Nat) (x : Int) : Decidable (FitN n x) := inferInstanceAs (Decidable (_ ∧ _))
theorem Rd.new (w : World) (s : ByteArray) : Rd (w.alloc (.cells #[.string s, .int .i64 0] 95)) w.heap.size s 0 := heap_alloc_new w _
end Go.Proofs.Ytkbgococmkcjaaa.Oc
