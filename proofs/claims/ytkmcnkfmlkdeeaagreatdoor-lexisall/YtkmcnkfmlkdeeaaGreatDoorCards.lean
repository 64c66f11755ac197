/-
  DERIVED. GIVEN WITH THE SEED: THE CARDS: each row of YtkmcnkfmlkdeeaaGreatDoorRows.lean that lists a variable, with what it lists TIED to the program's text (the seventh form; the later family's looks); each row that meets fmt, with fmt's text TOLD by the authors' own Lean function (tested against real Go, not proved from fmt's source: count such statements apart). THE CARD IS WHAT COUNTS. Prove the row's statement (the work); the ties are given (YtkmcnkfmlkdeeaaGreatDoorTie.lean); close each card by the builder's one call (the guide's Derived/Test/ToyasCard.lean, 'card_holds'). Laid BY PROGRAM, IN A SANDBOX (cutbox-door.mjs). By AI agents, Wed Nov 11 2026. No macro, syntax, notation, axiom, sorry.
-/
import Derived.Test.YtkmcnkfmlkdeeaaGreatDoorRows
import GoSem.ClaimSeven
namespace Go.Proofs.YtkmcnkfmlkdeeaaGreatDoor
namespace Rows

/-- THE TIED CARD OF 'incunablelaw03.LexisAll'. -/
def lexisAllCard : Claim7 := { stood := { row := lexisAllRow, standIns := [], harness := (true, "01bd1a221f40f48d76ff3def640b88aa49c93e2d73a3452913e14993a2b54b13"), looks := false }, kinds := [], alts := [], laidByText := true, laidKinds := [.data], laidTests := true, laidLooks := .later }
def LexisAllCardSaid : Prop := Claim7.holds Tryz.pinned (.plain (OpenSpec.ofChange lexisAllSpec)) lexisAllCard

/-- THE SECOND FORM's CARD OF 'incunablelaw03.LexisAll'. -/
def lexisAllUptoCard : Claim7 := { stood := { row := lexisAllUptoRow, standIns := [], harness := (true, "01bd1a221f40f48d76ff3def640b88aa49c93e2d73a3452913e14993a2b54b13"), looks := false }, kinds := [], alts := [], laidByText := true, laidKinds := [.data], laidTests := true, laidLooks := .later }
def LexisAllUptoCardSaid : Prop := Claim7.holds Tryz.pinned (.plain (OpenSpec.upto lexisAllSpec)) lexisAllUptoCard
end Rows
end Go.Proofs.YtkmcnkfmlkdeeaaGreatDoor
