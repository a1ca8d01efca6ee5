/-
  DERIVED. GIVEN WITH THE SEED: THE CARDS: each row of YtldkapjeheiiaaaGreatDoorRows.lean that lists a variable, with what it lists TIED to the program's text (the seventh form; the later family's looks); each row that meets fmt, with fmt's text TOLD by the authors' own Lean function (tested against real Go, not proved from fmt's source: count such statements apart). THE CARD IS WHAT COUNTS. Prove the row's statement (the work); the ties are given (YtldkapjeheiiaaaGreatDoorTie.lean); close each card by the builder's one call (the guide's Derived/Test/ToyasCard.lean, 'card_holds'). Laid BY PROGRAM, IN A SANDBOX (cutbox-door.mjs). By AI agents, Wed Nov 11 2026. No macro, syntax, notation, axiom, sorry.
-/
import Derived.Test.YtldkapjeheiiaaaGreatDoorRows
import GoSem.ClaimSeven
namespace Go.Proofs.YtldkapjeheiiaaaGreatDoor
namespace Rows

/-- THE TIED CARD OF 'reveillelaw19.EnqPuts'. -/
def enqPutsCard : Claim7 := { stood := { row := enqPutsRow, standIns := [], harness := (true, "526006ad19fc8be4a6a58c77f04c39f0aa8bb236d414626caf8d330bcb16ba45"), looks := true }, kinds := [], alts := [], laidByText := true, laidKinds := [.data, .data, .data, .sentinel, .sentinel], laidTests := true, laidLooks := .later }
def EnqPutsCardSaid : Prop := Claim7.holds Tryz.pinned (.plain (OpenSpec.ofChange enqPutsSpec)) enqPutsCard

/-- THE TIED CARD OF 'reveillelaw19.EnqNone'. -/
def enqNoneCard : Claim7 := { stood := { row := enqNoneRow, standIns := [], harness := (true, "526006ad19fc8be4a6a58c77f04c39f0aa8bb236d414626caf8d330bcb16ba45"), looks := true }, kinds := [], alts := [], laidByText := true, laidKinds := [.data, .data, .data, .sentinel, .sentinel], laidTests := true, laidLooks := .later }
def EnqNoneCardSaid : Prop := Claim7.holds Tryz.pinned (.plain (OpenSpec.ofChange enqNoneSpec)) enqNoneCard

/-- THE TIED CARD OF 'reveillelaw19.EnqAll'. -/
def enqAllCard : Claim7 := { stood := { row := enqAllRow, standIns := [], harness := (true, "526006ad19fc8be4a6a58c77f04c39f0aa8bb236d414626caf8d330bcb16ba45"), looks := true }, kinds := [], alts := [], laidByText := true, laidKinds := [.data, .data, .data, .sentinel, .sentinel], laidTests := true, laidLooks := .later }
def EnqAllCardSaid : Prop := Claim7.holds Tryz.pinned (.plain (OpenSpec.ofChange enqAllSpec)) enqAllCard

/-- THE TIED CARD OF 'reveillelaw19.EnqOne'. -/
def enqOneCard : Claim7 := { stood := { row := enqOneRow, standIns := [], harness := (true, "526006ad19fc8be4a6a58c77f04c39f0aa8bb236d414626caf8d330bcb16ba45"), looks := true }, kinds := [], alts := [], laidByText := true, laidKinds := [.data, .data, .data, .sentinel, .sentinel], laidTests := true, laidLooks := .later }
def EnqOneCardSaid : Prop := Claim7.holds Tryz.pinned (.plain (OpenSpec.ofChange enqOneSpec)) enqOneCard

/-- THE SECOND FORM's CARD OF 'reveillelaw19.EnqPuts'. -/
def enqPutsUptoCard : Claim7 := { stood := { row := enqPutsUptoRow, standIns := [], harness := (true, "526006ad19fc8be4a6a58c77f04c39f0aa8bb236d414626caf8d330bcb16ba45"), looks := true }, kinds := [], alts := [], laidByText := true, laidKinds := [.data, .data, .data, .sentinel, .sentinel], laidTests := true, laidLooks := .later }
def EnqPutsUptoCardSaid : Prop := Claim7.holds Tryz.pinned (.plain (OpenSpec.upto enqPutsSpec)) enqPutsUptoCard

/-- THE SECOND FORM's CARD OF 'reveillelaw19.EnqNone'. -/
def enqNoneUptoCard : Claim7 := { stood := { row := enqNoneUptoRow, standIns := [], harness := (true, "526006ad19fc8be4a6a58c77f04c39f0aa8bb236d414626caf8d330bcb16ba45"), looks := true }, kinds := [], alts := [], laidByText := true, laidKinds := [.data, .data, .data, .sentinel, .sentinel], laidTests := true, laidLooks := .later }
def EnqNoneUptoCardSaid : Prop := Claim7.holds Tryz.pinned (.plain (OpenSpec.upto enqNoneSpec)) enqNoneUptoCard

/-- THE SECOND FORM's CARD OF 'reveillelaw19.EnqAll'. -/
def enqAllUptoCard : Claim7 := { stood := { row := enqAllUptoRow, standIns := [], harness := (true, "526006ad19fc8be4a6a58c77f04c39f0aa8bb236d414626caf8d330bcb16ba45"), looks := true }, kinds := [], alts := [], laidByText := true, laidKinds := [.data, .data, .data, .sentinel, .sentinel], laidTests := true, laidLooks := .later }
def EnqAllUptoCardSaid : Prop := Claim7.holds Tryz.pinned (.plain (OpenSpec.upto enqAllSpec)) enqAllUptoCard

/-- THE SECOND FORM's CARD OF 'reveillelaw19.EnqOne'. -/
def enqOneUptoCard : Claim7 := { stood := { row := enqOneUptoRow, standIns := [], harness := (true, "526006ad19fc8be4a6a58c77f04c39f0aa8bb236d414626caf8d330bcb16ba45"), looks := true }, kinds := [], alts := [], laidByText := true, laidKinds := [.data, .data, .data, .sentinel, .sentinel], laidTests := true, laidLooks := .later }
def EnqOneUptoCardSaid : Prop := Claim7.holds Tryz.pinned (.plain (OpenSpec.upto enqOneSpec)) enqOneUptoCard
end Rows
end Go.Proofs.YtldkapjeheiiaaaGreatDoor
