/-
  DERIVED. GIVEN WITH THE SEED: THE CARDS: each row of YtdnhgodfmjapmaaGreatDoorRows.lean that lists a variable, with what it lists TIED to the program's text (the seventh form; the later family's looks); each row that meets fmt, with fmt's text TOLD by the authors' own Lean function (tested against real Go, not proved from fmt's source: count such statements apart). THE CARD IS WHAT COUNTS. Prove the row's statement (the work); the ties are given (YtdnhgodfmjapmaaGreatDoorTie.lean); close each card by the builder's one call (the guide's Derived/Test/ToyasCard.lean, 'card_holds'). Laid BY PROGRAM, IN A SANDBOX (cutbox-door.mjs). By AI agents, Wed Nov 11 2026. No macro, syntax, notation, axiom, sorry.
-/
import Derived.Test.YtdnhgodfmjapmaaGreatDoorRows
import GoSem.ClaimSeven
namespace Go.Proofs.YtdnhgodfmjapmaaGreatDoor
namespace Rows

/-- THE TIED CARD OF 'reveillelaw18.DispNone'. -/
def dispNoneCard : Claim7 := { stood := { row := dispNoneRow, standIns := [], harness := (true, "83a2624a34d5d44c86e900246ade14a71dae09aa05d0a2f97cd1f768551d0582"), looks := true }, kinds := [], alts := [], laidByText := true, laidKinds := [.data, .data, .data, .sentinel, .sentinel], laidTests := true, laidLooks := .later }
def DispNoneCardSaid : Prop := Claim7.holds Tryz.pinned (.plain (OpenSpec.ofChange dispNoneSpec)) dispNoneCard

/-- THE TIED CARD OF 'reveillelaw18.DispOnce'. -/
def dispOnceCard : Claim7 := { stood := { row := dispOnceRow, standIns := [], harness := (true, "83a2624a34d5d44c86e900246ade14a71dae09aa05d0a2f97cd1f768551d0582"), looks := true }, kinds := [], alts := [], laidByText := true, laidKinds := [.data, .data, .data, .sentinel, .sentinel], laidTests := true, laidLooks := .later }
def DispOnceCardSaid : Prop := Claim7.holds Tryz.pinned (.plain (OpenSpec.ofChange dispOnceSpec)) dispOnceCard

/-- THE TIED CARD OF 'reveillelaw18.DispKeys'. -/
def dispKeysCard : Claim7 := { stood := { row := dispKeysRow, standIns := [], harness := (true, "83a2624a34d5d44c86e900246ade14a71dae09aa05d0a2f97cd1f768551d0582"), looks := true }, kinds := [], alts := [], laidByText := true, laidKinds := [.data, .data, .data, .sentinel, .sentinel], laidTests := true, laidLooks := .later }
def DispKeysCardSaid : Prop := Claim7.holds Tryz.pinned (.plain (OpenSpec.ofChange dispKeysSpec)) dispKeysCard

/-- THE SECOND FORM's CARD OF 'reveillelaw18.DispNone'. -/
def dispNoneUptoCard : Claim7 := { stood := { row := dispNoneUptoRow, standIns := [], harness := (true, "83a2624a34d5d44c86e900246ade14a71dae09aa05d0a2f97cd1f768551d0582"), looks := true }, kinds := [], alts := [], laidByText := true, laidKinds := [.data, .data, .data, .sentinel, .sentinel], laidTests := true, laidLooks := .later }
def DispNoneUptoCardSaid : Prop := Claim7.holds Tryz.pinned (.plain (OpenSpec.upto dispNoneSpec)) dispNoneUptoCard

/-- THE SECOND FORM's CARD OF 'reveillelaw18.DispOnce'. -/
def dispOnceUptoCard : Claim7 := { stood := { row := dispOnceUptoRow, standIns := [], harness := (true, "83a2624a34d5d44c86e900246ade14a71dae09aa05d0a2f97cd1f768551d0582"), looks := true }, kinds := [], alts := [], laidByText := true, laidKinds := [.data, .data, .data, .sentinel, .sentinel], laidTests := true, laidLooks := .later }
def DispOnceUptoCardSaid : Prop := Claim7.holds Tryz.pinned (.plain (OpenSpec.upto dispOnceSpec)) dispOnceUptoCard

/-- THE SECOND FORM's CARD OF 'reveillelaw18.DispKeys'. -/
def dispKeysUptoCard : Claim7 := { stood := { row := dispKeysUptoRow, standIns := [], harness := (true, "83a2624a34d5d44c86e900246ade14a71dae09aa05d0a2f97cd1f768551d0582"), looks := true }, kinds := [], alts := [], laidByText := true, laidKinds := [.data, .data, .data, .sentinel, .sentinel], laidTests := true, laidLooks := .later }
def DispKeysUptoCardSaid : Prop := Claim7.holds Tryz.pinned (.plain (OpenSpec.upto dispKeysSpec)) dispKeysUptoCard
end Rows
end Go.Proofs.YtdnhgodfmjapmaaGreatDoor
