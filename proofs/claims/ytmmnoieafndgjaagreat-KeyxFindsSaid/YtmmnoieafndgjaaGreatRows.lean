/-
  No cell of these rows narrows 'for every input' (looked for: loops, veiled, ifaces, maps, wideKeys, modest, calm, conditions, laid).
  DERIVED. THE GIVEN ROWS OF THIS SEAT. 2 by the template 'for every input the law returns true; each argument reads behind the call as it read before'; 0 by the template 'total and deterministic' (their statements: YtmmnoieafndgjaaGreatTotals.lean).
  GIVEN WITH THE SEED: the statements are not yours to turn. If you find one false, say at which input.
  Laid BY PROGRAM, IN A SANDBOX (cutbox-rows.mjs): the forced cells as the released guide's own fill.sh prints them over the translation f3cbc870c2e459d2… (all of the seat's roots in one cut). By AI agents, Wed Nov 11 2026. No macro, syntax, notation, axiom, sorry.
-/
import Derived.Test.YtmmnoieafndgjaaGreatChecked
import GoSem.Claim
import GoSem.ClaimJoined
import GoSem.ClaimMapViews
import Derived.JoinedTies
import Derived.KernelRfl
namespace Go.Proofs.YtmmnoieafndgjaaGreat
/- THE CELL 'sum', in the pinned program and in every row, IS THE sha256 OF THE DUMP (.gsa) THAT YtmmnoieafndgjaaGreatProg.lean LOADS. Nothing in Lean hashes anything: it is a label: what it is worth is what the hold of that sum in a sandbox is worth. -/
noncomputable def Tryz.pinned : Pinned := { name := "ytmmnoieafndgjaagreat", sum := "f3cbc870c2e459d294c694cf7693de2ae48c95ae782a1ac47e33c571c5002e2a", checked := Tryz.checked }
namespace Rows
def none {H : Type} : Left H := { results := [], args := [] }

/-- 'reveillelaw11.KeyxFinds': WHATEVER THE INPUT: true; the input reads as it did. -/
def keyxFindsSpec : ChangeSpec := { name := "keyxFinds", fn := fun _ => fun
  | [d1, d2, d3] => { results := [.lit (.bool true)], args := [d1, d2, d3] }
  | _ => none }
def keyxFindsRow : OpenClaim := { program := "ytmmnoieafndgjaagreat", sum := "f3cbc870c2e459d294c694cf7693de2ae48c95ae782a1ac47e33c571c5002e2a", func := "reveille/reveillelaw11.KeyxFinds", spec := "keyxFinds", inPlace := ["internal/abi.NoEscape", "internal/bytealg.MakeNoZero"], unfollowed := true, recurses := true, apart := false }
def KeyxFindsSaid : Prop := keyxFindsRow.holds Tryz.pinned (OpenSpec.ofChange keyxFindsSpec)

/-- ITS FALSE NEIGHBOUR: 'it returns false'. Refute it at one input. -/
def keyxFindsWrong : ChangeSpec := { name := "keyxFinds", fn := fun _ => fun
  | [d1, d2, d3] => { results := [.lit (.bool false)], args := [d1, d2, d3] }
  | _ => none }
def KeyxFindsWrongFalsely : Prop := keyxFindsRow.holds Tryz.pinned (OpenSpec.ofChange keyxFindsWrong)

/-- 'reveillelaw11.KeyxChains': WHATEVER THE INPUT: true; the input reads as it did. -/
def keyxChainsSpec : ChangeSpec := { name := "keyxChains", fn := fun _ => fun
  | [d] => { results := [.lit (.bool true)], args := [d] }
  | _ => none }
def keyxChainsRow : OpenClaim := { program := "ytmmnoieafndgjaagreat", sum := "f3cbc870c2e459d294c694cf7693de2ae48c95ae782a1ac47e33c571c5002e2a", func := "reveille/reveillelaw11.KeyxChains", spec := "keyxChains", inPlace := ["internal/abi.NoEscape", "internal/bytealg.MakeNoZero"], unfollowed := true, recurses := true, apart := false }
def KeyxChainsSaid : Prop := keyxChainsRow.holds Tryz.pinned (OpenSpec.ofChange keyxChainsSpec)

/-- ITS FALSE NEIGHBOUR: 'it returns false'. Refute it at one input. -/
def keyxChainsWrong : ChangeSpec := { name := "keyxChains", fn := fun _ => fun
  | [d] => { results := [.lit (.bool false)], args := [d] }
  | _ => none }
def KeyxChainsWrongFalsely : Prop := keyxChainsRow.holds Tryz.pinned (OpenSpec.ofChange keyxChainsWrong)

/- THE SECOND FORM. 'bulk': how many values and letters a reading holds, each counted each time it is reached (what is shared counts as often as it is met; a slice's spare places count too). A statement '..UptoSaid' is the law's where the arguments, and the package variables that the reading takes, are together of bulk at most 1048576: NARROWER than '..Said'. Prove '..Said' where nothing that the law and all that it calls make is longer than what came in: it says more and counts as full. Else prove '..UptoSaid'. A law counts once. -/
mutual
def uptoBulk {H : Type} : DataW H → Nat
  | .lit (.string bytes) => bytes.length + 1
  | .lit _ => 1
  | .nil => 1
  | .ptr d => uptoBulk d + 1
  | .slice elems spare => uptoBulkAll elems + uptoBulkAll spare + 1
  | .agg parts => uptoBulkAll parts + 1
  | .iface _ d => uptoBulk d + 1
  | .map entries => uptoBulkEntries entries + 1
  | .held _ => 1
def uptoBulkAll {H : Type} : List (DataW H) → Nat
  | [] => 0
  | d :: r => uptoBulk d + uptoBulkAll r
def uptoBulkEntries {H : Type} : List (Lit × DataW H) → Nat
  | [] => 0
  | x :: r => uptoBulkEntry x + uptoBulkEntries r
def uptoBulkEntry {H : Type} : Lit × DataW H → Nat
  | (.string bytes, d) => bytes.length + uptoBulk d + 1
  | (_, d) => uptoBulk d + 1
 end
def uptoSmall : (H : Type) → List (DataW H) → Bool := fun _ ds => decide (uptoBulkAll ds ≤ 1048576)
def OpenSpec.upto (s : _root_.Go.ChangeSpec) : _root_.Go.OpenSpec := { _root_.Go.OpenSpec.ofChange s with cond := some uptoSmall }

/-- 'reveillelaw11.KeyxFinds', WHERE WHAT IT READS IS OF BULK AT MOST 1048576: true; the input reads as it did. -/
def keyxFindsUptoRow : OpenClaim := { program := "ytmmnoieafndgjaagreat", sum := "f3cbc870c2e459d294c694cf7693de2ae48c95ae782a1ac47e33c571c5002e2a", func := "reveille/reveillelaw11.KeyxFinds", spec := "keyxFinds", inPlace := ["internal/abi.NoEscape", "internal/bytealg.MakeNoZero"], unfollowed := true, recurses := true, apart := false, narrowed := true }
def KeyxFindsUptoSaid : Prop := keyxFindsUptoRow.holds Tryz.pinned (OpenSpec.upto keyxFindsSpec)

/-- 'reveillelaw11.KeyxChains', WHERE WHAT IT READS IS OF BULK AT MOST 1048576: true; the input reads as it did. -/
def keyxChainsUptoRow : OpenClaim := { program := "ytmmnoieafndgjaagreat", sum := "f3cbc870c2e459d294c694cf7693de2ae48c95ae782a1ac47e33c571c5002e2a", func := "reveille/reveillelaw11.KeyxChains", spec := "keyxChains", inPlace := ["internal/abi.NoEscape", "internal/bytealg.MakeNoZero"], unfollowed := true, recurses := true, apart := false, narrowed := true }
def KeyxChainsUptoSaid : Prop := keyxChainsUptoRow.holds Tryz.pinned (OpenSpec.upto keyxChainsSpec)

end Rows
end Go.Proofs.YtmmnoieafndgjaaGreat
