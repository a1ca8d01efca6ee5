/-
  DERIVED. GIVEN WITH THE SEED: THE CARDS: each row of YtnemlgfldfedpaaGreatDoorRows.lean that lists a variable, with what it lists TIED to the program's text (the seventh form; the later family's looks); each row that meets fmt, with fmt's text TOLD by the authors' own Lean function (tested against real Go, not proved from fmt's source: count such statements apart). THE CARD IS WHAT COUNTS. Prove the row's statement (the work); the ties are given (YtnemlgfldfedpaaGreatDoorTie.lean); close each card by the builder's one call (the guide's Derived/Test/ToyasCard.lean, 'card_holds'). Laid BY PROGRAM, IN A SANDBOX (cutbox-door.mjs). By AI agents, Wed Nov 11 2026. No macro, syntax, notation, axiom, sorry.
-/
import Derived.Test.YtnemlgfldfedpaaGreatDoorRows
import GoSem.ClaimSeven
namespace Go.Proofs.YtnemlgfldfedpaaGreatDoor
namespace Rows

/-- THE TIED CARD OF 'reveillelaw08.TapeCrashes'. -/
def tapeCrashesCard : Claim7 := { stood := { row := tapeCrashesRow, standIns := [], harness := (true, "57525a775a3acec304d323d6898f9afb219730daee827035d995c6017ff7203b"), looks := true }, kinds := [], alts := [], laidByText := true, laidKinds := [.data, .data, .data, .sentinel, .sentinel], laidTests := true, laidLooks := .later }
def TapeCrashesCardSaid : Prop := Claim7.holds Tryz.pinned (.plain (OpenSpec.ofChange tapeCrashesSpec)) tapeCrashesCard

/-- THE SECOND FORM's CARD OF 'reveillelaw08.TapeCrashes'. -/
def tapeCrashesUptoCard : Claim7 := { stood := { row := tapeCrashesUptoRow, standIns := [], harness := (true, "57525a775a3acec304d323d6898f9afb219730daee827035d995c6017ff7203b"), looks := true }, kinds := [], alts := [], laidByText := true, laidKinds := [.data, .data, .data, .sentinel, .sentinel], laidTests := true, laidLooks := .later }
def TapeCrashesUptoCardSaid : Prop := Claim7.holds Tryz.pinned (.plain (OpenSpec.upto tapeCrashesSpec)) tapeCrashesUptoCard
end Rows
end Go.Proofs.YtnemlgfldfedpaaGreatDoor
