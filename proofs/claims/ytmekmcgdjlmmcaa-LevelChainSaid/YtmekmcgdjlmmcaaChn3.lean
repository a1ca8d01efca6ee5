/-
  Part 3: what the statement needs of these texts: Text, Write.
-/
import Derived.BigQuiet
import Derived.Deep.OwnRows
import Derived.Deep.QuietTactic
import Derived.Lib.Hide
import Derived.Test.YtmekmcgdjlmmcaaRows
import Derived.WalkKit
import Derived.WalkLawsBesides
import Derived.WalkSpells
import Derived.Test.YtmekmcgdjlmmcaaChn2
namespace Go.Proofs.Ytmekmcgdjlmmcaa.Oc
open Go.RowKit Go.Deep

/-- A slice value reads as these texts. -/
def Strs (w : World) (base : Nat) (v : Value) (ts : List ByteArray) : Prop :=
  ∃ a cap, v = .slice a ts.length cap ∧ (ts = [] ∨ ∃ b o, a = some ⟨b, o, none⟩ ∧ base ≤ b ∧ ∀ i, i < ts.length → w.cell? ⟨b, o + i, none⟩ = some (.string (ts.getD i ⟨#[]⟩)))

end Go.Proofs.Ytmekmcgdjlmmcaa.Oc

namespace Go.Proofs.Ytmekmcgdjlmmcaa.Oc
open Go.RowKit Go.Deep

/-- A slice value reads as these numbers. -/
def IntsOf (k : IntKind) (w : World) (v : Value) (zs : List Int) : Prop :=
  ∃ a cap, v = .slice a zs.length cap ∧ (zs = [] ∨ ∃ b o, a = some ⟨b, o, none⟩ ∧ ∀ i, i < zs.length → w.cell? ⟨b, o + i, none⟩ = some (.int k (zs.getD i 0)))
abbrev Ints := IntsOf .i64

/-- Is x a number in n bytes? -/
def FitN (n : Nat) (x : Int) : Prop := 0 ≤ x ∧ x < 256 ^ n
instance (n : Nat) (x : Int) : Decidable (FitN n x) := inferInstanceAs (Decidable (_ ∧ _))
end Go.Proofs.Ytmekmcgdjlmmcaa.Oc

