/-
  DERIVED. GIVEN WITH THE SEED: THE CARDS: each row of YtmhojpipmllphaaGreatDoorRows.lean that lists a variable, with what it lists TIED to the program's text (the seventh form; the later family's looks); each row that meets fmt, with fmt's text TOLD by the authors' own Lean function (tested against real Go, not proved from fmt's source: count such statements apart). THE CARD IS WHAT COUNTS. Prove the row's statement (the work); the ties are given (YtmhojpipmllphaaGreatDoorTie.lean); close each card by the builder's one call (the guide's Derived/Test/ToyasCard.lean, 'card_holds'). Laid BY PROGRAM, IN A SANDBOX (cutbox-door.mjs). By AI agents, Wed Nov 11 2026. No macro, syntax, notation, axiom, sorry.
-/
import Derived.Test.YtmhojpipmllphaaGreatDoorRows
import GoSem.ClaimSeven
namespace Go.Proofs.YtmhojpipmllphaaGreatDoor
namespace Rows

/-- THE TIED CARD OF 'reveillelaw10.CqPlays'. -/
def cqPlaysCard : Claim7 := { stood := { row := cqPlaysRow, standIns := [], harness := (true, "55affc9e631658b6982a02611fe159fdce23785fc10f1a65f4aaab648b12f697"), looks := true }, kinds := [], alts := [], laidByText := true, laidKinds := [.data, .data, .data, .sentinel, .sentinel], laidTests := true, laidLooks := .later }
def CqPlaysCardSaid : Prop := Claim7.holds Tryz.pinned (.plain (OpenSpec.ofChange cqPlaysSpec)) cqPlaysCard

/-- THE SECOND FORM's CARD OF 'reveillelaw10.CqPlays'. -/
def cqPlaysUptoCard : Claim7 := { stood := { row := cqPlaysUptoRow, standIns := [], harness := (true, "55affc9e631658b6982a02611fe159fdce23785fc10f1a65f4aaab648b12f697"), looks := true }, kinds := [], alts := [], laidByText := true, laidKinds := [.data, .data, .data, .sentinel, .sentinel], laidTests := true, laidLooks := .later }
def CqPlaysUptoCardSaid : Prop := Claim7.holds Tryz.pinned (.plain (OpenSpec.upto cqPlaysSpec)) cqPlaysUptoCard
end Rows
end Go.Proofs.YtmhojpipmllphaaGreatDoor
