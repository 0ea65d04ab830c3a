/-
  DERIVED. GIVEN WITH THE SEED: THE CARDS: each row of YtkmhnpkkkhglpaaDoorRows.lean that lists a variable, with what it lists TIED to the program's text (the seventh form; the later family's looks); each row that meets fmt, with fmt's text TOLD by the authors' own Lean function (tested against real Go, not proved from fmt's source: count such statements apart). THE CARD IS WHAT COUNTS. Prove the row's statement (the work); the ties are given (YtkmhnpkkkhglpaaDoorTie.lean); close each card by the builder's one call (the guide's Derived/Test/ToyasCard.lean, 'card_holds'). Laid BY PROGRAM, IN A SANDBOX (cutbox-door.mjs). By AI agents, Wed Nov 11 2026. No macro, syntax, notation, axiom, sorry.
-/
import Derived.Test.YtkmhnpkkkhglpaaDoorRows
import GoSem.ClaimSeven
namespace Go.Proofs.YtkmhnpkkkhglpaaDoor
namespace Rows

/-- THE TIED CARD OF 'latticelaw2.IdentNodes'. -/
def identNodesCard : Claim7 := { stood := { row := identNodesRow, standIns := [], harness := (true, "5b70145dd9df4558f3d0ac6fb0796a7e89fc664e59acc8206017d2ebbc606989"), looks := false }, kinds := [], alts := [], laidByText := true, laidKinds := [.data, .data], laidTests := true, laidLooks := .later }
def IdentNodesCardSaid : Prop := Claim7.holds Tryd.pinned (.plain (OpenSpec.ofChange identNodesSpec)) identNodesCard

/-- THE SECOND FORM's CARD OF 'latticelaw2.IdentNodes'. -/
def identNodesUptoCard : Claim7 := { stood := { row := identNodesUptoRow, standIns := [], harness := (true, "5b70145dd9df4558f3d0ac6fb0796a7e89fc664e59acc8206017d2ebbc606989"), looks := false }, kinds := [], alts := [], laidByText := true, laidKinds := [.data, .data], laidTests := true, laidLooks := .later }
def IdentNodesUptoCardSaid : Prop := Claim7.holds Tryd.pinned (.plain (OpenSpec.upto identNodesSpec)) identNodesUptoCard
end Rows
end Go.Proofs.YtkmhnpkkkhglpaaDoor
