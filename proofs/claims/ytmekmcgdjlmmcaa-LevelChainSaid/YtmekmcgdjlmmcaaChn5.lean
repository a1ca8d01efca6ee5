/-
  Part 5: what the statement needs of these texts: Texts.
-/
import Derived.BigQuiet
import Derived.Deep.OwnRows
import Derived.Deep.QuietTactic
import Derived.Lib.AppendStr
import Derived.Lib.Hide
import Derived.ProofKit
import Derived.Test.YtmekmcgdjlmmcaaRows
import Derived.WalkKit
import Derived.WalkLawsBesides
import Derived.WalkSpells
import Derived.Test.YtmekmcgdjlmmcaaChn2
import Derived.Test.YtmekmcgdjlmmcaaChn3
import Derived.Test.YtmekmcgdjlmmcaaChn4
namespace Go.Proofs.Ytmekmcgdjlmmcaa.Oc
open Go.RowKit Go.Deep

theorem Strs.all {w : World} {u : Value} {ts : List ByteArray} (h : Strs w 0 u ts) : ∀ w', Below w.heap.size w w' → Strs w' 0 u ts := fun _ hb => h.below hb (Nat.le_refl _)

end Go.Proofs.Ytmekmcgdjlmmcaa.Oc

