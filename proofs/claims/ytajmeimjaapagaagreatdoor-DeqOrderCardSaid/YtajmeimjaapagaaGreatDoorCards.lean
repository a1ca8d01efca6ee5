/-
  DERIVED. GIVEN WITH THE SEED: THE CARDS: each row of YtajmeimjaapagaaGreatDoorRows.lean that lists a variable, with what it lists TIED to the program's text (the seventh form; the later family's looks); each row that meets fmt, with fmt's text TOLD by the authors' own Lean function (tested against real Go, not proved from fmt's source: count such statements apart). THE CARD IS WHAT COUNTS. Prove the row's statement (the work); the ties are given (YtajmeimjaapagaaGreatDoorTie.lean); close each card by the builder's one call (the guide's Derived/Test/ToyasCard.lean, 'card_holds'). Laid BY PROGRAM, IN A SANDBOX (cutbox-door.mjs). By AI agents, Wed Nov 11 2026. No macro, syntax, notation, axiom, sorry.
-/
import Derived.Test.YtajmeimjaapagaaGreatDoorRows
import GoSem.ClaimSeven
namespace Go.Proofs.YtajmeimjaapagaaGreatDoor
namespace Rows

/-- THE TIED CARD OF 'reveillelaw20.DeqOnce'. -/
def deqOnceCard : Claim7 := { stood := { row := deqOnceRow, standIns := [], harness := (true, "cbc9fde5d944a384a7ba426db8b7152ba97f27083960cf77211ba63daf2c1197"), looks := true }, kinds := [], alts := [], laidByText := true, laidKinds := [.data, .data, .data, .sentinel, .sentinel], laidTests := true, laidLooks := .later }
def DeqOnceCardSaid : Prop := Claim7.holds Tryz.pinned (.plain (OpenSpec.ofChange deqOnceSpec)) deqOnceCard

/-- THE TIED CARD OF 'reveillelaw20.DeqNone'. -/
def deqNoneCard : Claim7 := { stood := { row := deqNoneRow, standIns := [], harness := (true, "cbc9fde5d944a384a7ba426db8b7152ba97f27083960cf77211ba63daf2c1197"), looks := true }, kinds := [], alts := [], laidByText := true, laidKinds := [.data, .data, .data, .sentinel, .sentinel], laidTests := true, laidLooks := .later }
def DeqNoneCardSaid : Prop := Claim7.holds Tryz.pinned (.plain (OpenSpec.ofChange deqNoneSpec)) deqNoneCard

/-- THE TIED CARD OF 'reveillelaw20.DeqOrder'. -/
def deqOrderCard : Claim7 := { stood := { row := deqOrderRow, standIns := [], harness := (true, "cbc9fde5d944a384a7ba426db8b7152ba97f27083960cf77211ba63daf2c1197"), looks := true }, kinds := [], alts := [], laidByText := true, laidKinds := [.data, .data, .data, .sentinel, .sentinel], laidTests := true, laidLooks := .later }
def DeqOrderCardSaid : Prop := Claim7.holds Tryz.pinned (.plain (OpenSpec.ofChange deqOrderSpec)) deqOrderCard

/-- THE TIED CARD OF 'reveillelaw20.DeqCancels'. -/
def deqCancelsCard : Claim7 := { stood := { row := deqCancelsRow, standIns := [], harness := (true, "cbc9fde5d944a384a7ba426db8b7152ba97f27083960cf77211ba63daf2c1197"), looks := true }, kinds := [], alts := [], laidByText := true, laidKinds := [.data, .data, .data, .sentinel, .sentinel], laidTests := true, laidLooks := .later }
def DeqCancelsCardSaid : Prop := Claim7.holds Tryz.pinned (.plain (OpenSpec.ofChange deqCancelsSpec)) deqCancelsCard

/-- THE SECOND FORM's CARD OF 'reveillelaw20.DeqOnce'. -/
def deqOnceUptoCard : Claim7 := { stood := { row := deqOnceUptoRow, standIns := [], harness := (true, "cbc9fde5d944a384a7ba426db8b7152ba97f27083960cf77211ba63daf2c1197"), looks := true }, kinds := [], alts := [], laidByText := true, laidKinds := [.data, .data, .data, .sentinel, .sentinel], laidTests := true, laidLooks := .later }
def DeqOnceUptoCardSaid : Prop := Claim7.holds Tryz.pinned (.plain (OpenSpec.upto deqOnceSpec)) deqOnceUptoCard

/-- THE SECOND FORM's CARD OF 'reveillelaw20.DeqNone'. -/
def deqNoneUptoCard : Claim7 := { stood := { row := deqNoneUptoRow, standIns := [], harness := (true, "cbc9fde5d944a384a7ba426db8b7152ba97f27083960cf77211ba63daf2c1197"), looks := true }, kinds := [], alts := [], laidByText := true, laidKinds := [.data, .data, .data, .sentinel, .sentinel], laidTests := true, laidLooks := .later }
def DeqNoneUptoCardSaid : Prop := Claim7.holds Tryz.pinned (.plain (OpenSpec.upto deqNoneSpec)) deqNoneUptoCard

/-- THE SECOND FORM's CARD OF 'reveillelaw20.DeqOrder'. -/
def deqOrderUptoCard : Claim7 := { stood := { row := deqOrderUptoRow, standIns := [], harness := (true, "cbc9fde5d944a384a7ba426db8b7152ba97f27083960cf77211ba63daf2c1197"), looks := true }, kinds := [], alts := [], laidByText := true, laidKinds := [.data, .data, .data, .sentinel, .sentinel], laidTests := true, laidLooks := .later }
def DeqOrderUptoCardSaid : Prop := Claim7.holds Tryz.pinned (.plain (OpenSpec.upto deqOrderSpec)) deqOrderUptoCard

/-- THE SECOND FORM's CARD OF 'reveillelaw20.DeqCancels'. -/
def deqCancelsUptoCard : Claim7 := { stood := { row := deqCancelsUptoRow, standIns := [], harness := (true, "cbc9fde5d944a384a7ba426db8b7152ba97f27083960cf77211ba63daf2c1197"), looks := true }, kinds := [], alts := [], laidByText := true, laidKinds := [.data, .data, .data, .sentinel, .sentinel], laidTests := true, laidLooks := .later }
def DeqCancelsUptoCardSaid : Prop := Claim7.holds Tryz.pinned (.plain (OpenSpec.upto deqCancelsSpec)) deqCancelsUptoCard
end Rows
end Go.Proofs.YtajmeimjaapagaaGreatDoor
