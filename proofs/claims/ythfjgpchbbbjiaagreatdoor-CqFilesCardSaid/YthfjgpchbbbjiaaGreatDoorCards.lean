/-
  DERIVED. GIVEN WITH THE SEED: THE CARDS: each row of YthfjgpchbbbjiaaGreatDoorRows.lean that lists a variable, with what it lists TIED to the program's text (the seventh form; the later family's looks); each row that meets fmt, with fmt's text TOLD by the authors' own Lean function (tested against real Go, not proved from fmt's source: count such statements apart). THE CARD IS WHAT COUNTS. Prove the row's statement (the work); the ties are given (YthfjgpchbbbjiaaGreatDoorTie.lean); close each card by the builder's one call (the guide's Derived/Test/ToyasCard.lean, 'card_holds'). Laid BY PROGRAM, IN A SANDBOX (cutbox-door.mjs). By AI agents, Wed Nov 11 2026. No macro, syntax, notation, axiom, sorry.
-/
import Derived.Test.YthfjgpchbbbjiaaGreatDoorRows
import GoSem.ClaimSeven
namespace Go.Proofs.YthfjgpchbbbjiaaGreatDoor
namespace Rows

/-- THE TIED CARD OF 'reveillelaw10.CqPlays'. -/
def cqPlaysCard : Claim7 := { stood := { row := cqPlaysRow, standIns := [], harness := (true, "ebaaa830c7af9665337b29e557019e5d08fb6420b3bc18804edd1764c0d161e6"), looks := true }, kinds := [], alts := [], laidByText := true, laidKinds := [.data, .data, .data, .sentinel, .sentinel], laidTests := true, laidLooks := .later }
def CqPlaysCardSaid : Prop := Claim7.holds Tryz.pinned (.plain (OpenSpec.ofChange cqPlaysSpec)) cqPlaysCard

/-- THE TIED CARD OF 'reveillelaw10.CqFiles'. -/
def cqFilesCard : Claim7 := { stood := { row := cqFilesRow, standIns := [], harness := (true, "ebaaa830c7af9665337b29e557019e5d08fb6420b3bc18804edd1764c0d161e6"), looks := true }, kinds := [], alts := [], laidByText := true, laidKinds := [.data, .data, .data, .sentinel, .sentinel], laidTests := true, laidLooks := .later }
def CqFilesCardSaid : Prop := Claim7.holds Tryz.pinned (.plain (OpenSpec.ofChange cqFilesSpec)) cqFilesCard

/-- THE TIED CARD OF 'reveillelaw10.CqApart'. -/
def cqApartCard : Claim7 := { stood := { row := cqApartRow, standIns := [], harness := (true, "ebaaa830c7af9665337b29e557019e5d08fb6420b3bc18804edd1764c0d161e6"), looks := true }, kinds := [], alts := [], laidByText := true, laidKinds := [.data, .data, .data, .sentinel, .sentinel], laidTests := true, laidLooks := .later }
def CqApartCardSaid : Prop := Claim7.holds Tryz.pinned (.plain (OpenSpec.ofChange cqApartSpec)) cqApartCard

/-- THE TIED CARD OF 'reveillelaw10.CqSeeks'. -/
def cqSeeksCard : Claim7 := { stood := { row := cqSeeksRow, standIns := [], harness := (true, "ebaaa830c7af9665337b29e557019e5d08fb6420b3bc18804edd1764c0d161e6"), looks := true }, kinds := [], alts := [], laidByText := true, laidKinds := [.data, .data, .data, .sentinel, .sentinel], laidTests := true, laidLooks := .later }
def CqSeeksCardSaid : Prop := Claim7.holds Tryz.pinned (.plain (OpenSpec.ofChange cqSeeksSpec)) cqSeeksCard

/-- THE SECOND FORM's CARD OF 'reveillelaw10.CqPlays'. -/
def cqPlaysUptoCard : Claim7 := { stood := { row := cqPlaysUptoRow, standIns := [], harness := (true, "ebaaa830c7af9665337b29e557019e5d08fb6420b3bc18804edd1764c0d161e6"), looks := true }, kinds := [], alts := [], laidByText := true, laidKinds := [.data, .data, .data, .sentinel, .sentinel], laidTests := true, laidLooks := .later }
def CqPlaysUptoCardSaid : Prop := Claim7.holds Tryz.pinned (.plain (OpenSpec.upto cqPlaysSpec)) cqPlaysUptoCard

/-- THE SECOND FORM's CARD OF 'reveillelaw10.CqFiles'. -/
def cqFilesUptoCard : Claim7 := { stood := { row := cqFilesUptoRow, standIns := [], harness := (true, "ebaaa830c7af9665337b29e557019e5d08fb6420b3bc18804edd1764c0d161e6"), looks := true }, kinds := [], alts := [], laidByText := true, laidKinds := [.data, .data, .data, .sentinel, .sentinel], laidTests := true, laidLooks := .later }
def CqFilesUptoCardSaid : Prop := Claim7.holds Tryz.pinned (.plain (OpenSpec.upto cqFilesSpec)) cqFilesUptoCard

/-- THE SECOND FORM's CARD OF 'reveillelaw10.CqApart'. -/
def cqApartUptoCard : Claim7 := { stood := { row := cqApartUptoRow, standIns := [], harness := (true, "ebaaa830c7af9665337b29e557019e5d08fb6420b3bc18804edd1764c0d161e6"), looks := true }, kinds := [], alts := [], laidByText := true, laidKinds := [.data, .data, .data, .sentinel, .sentinel], laidTests := true, laidLooks := .later }
def CqApartUptoCardSaid : Prop := Claim7.holds Tryz.pinned (.plain (OpenSpec.upto cqApartSpec)) cqApartUptoCard

/-- THE SECOND FORM's CARD OF 'reveillelaw10.CqSeeks'. -/
def cqSeeksUptoCard : Claim7 := { stood := { row := cqSeeksUptoRow, standIns := [], harness := (true, "ebaaa830c7af9665337b29e557019e5d08fb6420b3bc18804edd1764c0d161e6"), looks := true }, kinds := [], alts := [], laidByText := true, laidKinds := [.data, .data, .data, .sentinel, .sentinel], laidTests := true, laidLooks := .later }
def CqSeeksUptoCardSaid : Prop := Claim7.holds Tryz.pinned (.plain (OpenSpec.upto cqSeeksSpec)) cqSeeksUptoCard
end Rows
end Go.Proofs.YthfjgpchbbbjiaaGreatDoor
