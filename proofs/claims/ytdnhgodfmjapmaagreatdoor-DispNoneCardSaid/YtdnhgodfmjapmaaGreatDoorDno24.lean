/- A part. -/
import Derived.Test.YtdnhgodfmjapmaaGreatDoorDno22
set_option linter.unusedVariables false
set_option linter.unusedSimpArgs false
namespace Go.Proofs.YtdnhgodfmjapmaaGreatDoor
open Go.RowKit Go.Deep
attribute [local go_sem] fr_opt
theorem WritesAt.slice {w : World} {v : Value} {ws : List WriteM} (h : WritesAt w v ws) : ∃ p c, v = .slice p ws.length c := by
  rcases h.form with ⟨h1, h2⟩ | ⟨g, cap, h1, _⟩
  · exact ⟨_, _, by rw [h1, h2]; rfl⟩
  · exact ⟨_, _, h1⟩
end Go.Proofs.YtdnhgodfmjapmaaGreatDoor
