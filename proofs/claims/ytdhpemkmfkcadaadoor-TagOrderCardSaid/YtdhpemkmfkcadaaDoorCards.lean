/-
  DERIVED. GIVEN WITH THE SEED: THE CARDS: each row of YtdhpemkmfkcadaaDoorRows.lean that lists a variable, with what it lists TIED to the program's text (the seventh form; the later family's looks); each row that meets fmt, with fmt's text TOLD by the authors' own Lean function (tested against real Go, not proved from fmt's source: count such statements apart). THE CARD IS WHAT COUNTS. Prove the row's statement (the work); the ties are given (YtdhpemkmfkcadaaDoorTie.lean); close each card by the builder's one call (the guide's Derived/Test/ToyasCard.lean, 'card_holds'). Laid BY PROGRAM, IN A SANDBOX (cutbox-door.mjs). By AI agents, Wed Nov 11 2026. No macro, syntax, notation, axiom, sorry.
-/
import Derived.Test.YtdhpemkmfkcadaaDoorRows
import GoSem.ClaimSeven
namespace Go.Proofs.YtdhpemkmfkcadaaDoor
namespace Rows

/-- THE TIED CARD OF 'reveillelaw09.TagTexts'. -/
def tagTextsCard : Claim7 := { stood := { row := tagTextsRow, standIns := [], harness := (true, "8e0e7f919aa5a94d1e742f85096eb065996386392a1646984603cf0c2a6aae81"), looks := false }, kinds := [], alts := [], laidByText := true, laidKinds := [.data, .pinned], laidTests := true, laidLooks := .later }
def TagTextsCardSaid : Prop := Claim7.holds Tryd.pinned (.plain (OpenSpec.ofChange tagTextsSpec)) tagTextsCard

/-- THE TIED CARD OF 'reveillelaw09.TagOrder'. -/
def tagOrderCard : Claim7 := { stood := { row := tagOrderRow, standIns := [], harness := (true, "8e0e7f919aa5a94d1e742f85096eb065996386392a1646984603cf0c2a6aae81"), looks := false }, kinds := [], alts := [], laidByText := true, laidKinds := [.data, .pinned], laidTests := true, laidLooks := .later }
def TagOrderCardSaid : Prop := Claim7.holds Tryd.pinned (.plain (OpenSpec.ofChange tagOrderSpec)) tagOrderCard

/-- THE SECOND FORM's CARD OF 'reveillelaw09.TagTexts'. -/
def tagTextsUptoCard : Claim7 := { stood := { row := tagTextsUptoRow, standIns := [], harness := (true, "8e0e7f919aa5a94d1e742f85096eb065996386392a1646984603cf0c2a6aae81"), looks := false }, kinds := [], alts := [], laidByText := true, laidKinds := [.data, .pinned], laidTests := true, laidLooks := .later }
def TagTextsUptoCardSaid : Prop := Claim7.holds Tryd.pinned (.plain (OpenSpec.upto tagTextsSpec)) tagTextsUptoCard

/-- THE SECOND FORM's CARD OF 'reveillelaw09.TagOrder'. -/
def tagOrderUptoCard : Claim7 := { stood := { row := tagOrderUptoRow, standIns := [], harness := (true, "8e0e7f919aa5a94d1e742f85096eb065996386392a1646984603cf0c2a6aae81"), looks := false }, kinds := [], alts := [], laidByText := true, laidKinds := [.data, .pinned], laidTests := true, laidLooks := .later }
def TagOrderUptoCardSaid : Prop := Claim7.holds Tryd.pinned (.plain (OpenSpec.upto tagOrderSpec)) tagOrderUptoCard
end Rows
end Go.Proofs.YtdhpemkmfkcadaaDoor
