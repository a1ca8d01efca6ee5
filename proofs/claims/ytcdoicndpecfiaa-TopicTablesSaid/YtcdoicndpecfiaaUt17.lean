/-
  Part 17: what the statement needs of these texts: DLose.
-/
import Derived.BigQuiet
import Derived.Deep.OwnRows
import Derived.Deep.QuietTactic
import Derived.Laws.CopyOwn
import Derived.Laws.OwnMore
import Derived.Lib.AppendZerosOnto
import Derived.Lib.BufferWrite
import Derived.Lib.Hide
import Derived.Maps.AppendAt
import Derived.Orders
import Derived.ProofKit
import Derived.Test.YtcdoicndpecfiaaRows
import Derived.WalkKit
import Derived.WalkLawsBesides
import Derived.WalkSpells
import Derived.Test.YtcdoicndpecfiaaUt4
import Derived.Test.YtcdoicndpecfiaaUt8
import Derived.Test.YtcdoicndpecfiaaUt9
import Derived.Test.YtcdoicndpecfiaaUt13
import Derived.Test.YtcdoicndpecfiaaUt16
namespace Go.Proofs.Ytcdoicndpecfiaa
open Go.RowKit Go.Deep
attribute [local go_sem] fr_opt

theorem WritesAt.slice {w : World} {v : Value} {ws : List WriteM} (h : WritesAt w v ws) : ∃ p c, v = .slice p ws.length c := by
  rcases h.form with ⟨h1, h2⟩ | ⟨g, cap, h1, _⟩
  · exact ⟨_, _, by rw [h1, h2]; rfl⟩
  · exact ⟨_, _, h1⟩

end Go.Proofs.Ytcdoicndpecfiaa

