/-
  DERIVED. GIVEN WITH THE SEED: THE CARDS: each row of YtmnegpdegfianaaGreatDoorRows.lean that lists a variable, with what it lists TIED to the program's text (the seventh form; the later family's looks); each row that meets fmt, with fmt's text TOLD by the authors' own Lean function (tested against real Go, not proved from fmt's source: count such statements apart). THE CARD IS WHAT COUNTS. Prove the row's statement (the work); the ties are given (YtmnegpdegfianaaGreatDoorTie.lean); close each card by the builder's one call (the guide's Derived/Test/ToyasCard.lean, 'card_holds'). Laid BY PROGRAM, IN A SANDBOX (cutbox-door.mjs). By AI agents, Wed Nov 11 2026. No macro, syntax, notation, axiom, sorry.
-/
import Derived.Test.YtmnegpdegfianaaGreatDoorRows
import GoSem.ClaimSeven
namespace Go.Proofs.YtmnegpdegfianaaGreatDoor
namespace Rows

/-- THE TIED CARD OF 'incunablelaw05.ScribeBack'. -/
def scribeBackCard : Claim7 := { stood := { row := scribeBackRow, standIns := [], harness := (true, "178fadcdcff03321797c71f59ffe15781e5ee24b212b483018f71e9985f9f65e"), looks := false }, kinds := [], alts := [], laidByText := true, laidKinds := [.data], laidTests := true, laidLooks := .later }
def ScribeBackCardSaid : Prop := Claim7.holds Tryz.pinned (.plain (OpenSpec.ofChange scribeBackSpec)) scribeBackCard

/-- THE TIED CARD OF 'incunablelaw05.ScribeAgain'. -/
def scribeAgainCard : Claim7 := { stood := { row := scribeAgainRow, standIns := [], harness := (true, "178fadcdcff03321797c71f59ffe15781e5ee24b212b483018f71e9985f9f65e"), looks := false }, kinds := [], alts := [], laidByText := true, laidKinds := [.data], laidTests := true, laidLooks := .later }
def ScribeAgainCardSaid : Prop := Claim7.holds Tryz.pinned (.plain (OpenSpec.ofChange scribeAgainSpec)) scribeAgainCard

/-- THE TIED CARD OF 'incunablelaw06.GroveAll'. -/
def groveAllCard : Claim7 := { stood := { row := groveAllRow, standIns := [], harness := (true, "178fadcdcff03321797c71f59ffe15781e5ee24b212b483018f71e9985f9f65e"), looks := false }, kinds := [], alts := [], laidByText := true, laidKinds := [.data], laidTests := true, laidLooks := .later }
def GroveAllCardSaid : Prop := Claim7.holds Tryz.pinned (.plain (OpenSpec.ofChange groveAllSpec)) groveAllCard

/-- THE TIED CARD OF 'incunablelaw06.GroveAsks'. -/
def groveAsksCard : Claim7 := { stood := { row := groveAsksRow, standIns := [], harness := (true, "178fadcdcff03321797c71f59ffe15781e5ee24b212b483018f71e9985f9f65e"), looks := false }, kinds := [], alts := [], laidByText := true, laidKinds := [.data], laidTests := true, laidLooks := .later }
def GroveAsksCardSaid : Prop := Claim7.holds Tryz.pinned (.plain (OpenSpec.ofChange groveAsksSpec)) groveAsksCard

/-- THE TIED CARD OF 'incunablelaw06.GroveRefused'. -/
def groveRefusedCard : Claim7 := { stood := { row := groveRefusedRow, standIns := [], harness := (true, "178fadcdcff03321797c71f59ffe15781e5ee24b212b483018f71e9985f9f65e"), looks := false }, kinds := [], alts := [], laidByText := true, laidKinds := [.data], laidTests := true, laidLooks := .later }
def GroveRefusedCardSaid : Prop := Claim7.holds Tryz.pinned (.plain (OpenSpec.ofChange groveRefusedSpec)) groveRefusedCard

/-- THE TIED CARD OF 'incunablelaw06.GroveTurns'. -/
def groveTurnsCard : Claim7 := { stood := { row := groveTurnsRow, standIns := [], harness := (true, "178fadcdcff03321797c71f59ffe15781e5ee24b212b483018f71e9985f9f65e"), looks := false }, kinds := [], alts := [], laidByText := true, laidKinds := [.data], laidTests := true, laidLooks := .later }
def GroveTurnsCardSaid : Prop := Claim7.holds Tryz.pinned (.plain (OpenSpec.ofChange groveTurnsSpec)) groveTurnsCard

/-- THE SECOND FORM's CARD OF 'incunablelaw05.ScribeBack'. -/
def scribeBackUptoCard : Claim7 := { stood := { row := scribeBackUptoRow, standIns := [], harness := (true, "178fadcdcff03321797c71f59ffe15781e5ee24b212b483018f71e9985f9f65e"), looks := false }, kinds := [], alts := [], laidByText := true, laidKinds := [.data], laidTests := true, laidLooks := .later }
def ScribeBackUptoCardSaid : Prop := Claim7.holds Tryz.pinned (.plain (OpenSpec.upto scribeBackSpec)) scribeBackUptoCard

/-- THE SECOND FORM's CARD OF 'incunablelaw05.ScribeAgain'. -/
def scribeAgainUptoCard : Claim7 := { stood := { row := scribeAgainUptoRow, standIns := [], harness := (true, "178fadcdcff03321797c71f59ffe15781e5ee24b212b483018f71e9985f9f65e"), looks := false }, kinds := [], alts := [], laidByText := true, laidKinds := [.data], laidTests := true, laidLooks := .later }
def ScribeAgainUptoCardSaid : Prop := Claim7.holds Tryz.pinned (.plain (OpenSpec.upto scribeAgainSpec)) scribeAgainUptoCard

/-- THE SECOND FORM's CARD OF 'incunablelaw06.GroveAll'. -/
def groveAllUptoCard : Claim7 := { stood := { row := groveAllUptoRow, standIns := [], harness := (true, "178fadcdcff03321797c71f59ffe15781e5ee24b212b483018f71e9985f9f65e"), looks := false }, kinds := [], alts := [], laidByText := true, laidKinds := [.data], laidTests := true, laidLooks := .later }
def GroveAllUptoCardSaid : Prop := Claim7.holds Tryz.pinned (.plain (OpenSpec.upto groveAllSpec)) groveAllUptoCard

/-- THE SECOND FORM's CARD OF 'incunablelaw06.GroveAsks'. -/
def groveAsksUptoCard : Claim7 := { stood := { row := groveAsksUptoRow, standIns := [], harness := (true, "178fadcdcff03321797c71f59ffe15781e5ee24b212b483018f71e9985f9f65e"), looks := false }, kinds := [], alts := [], laidByText := true, laidKinds := [.data], laidTests := true, laidLooks := .later }
def GroveAsksUptoCardSaid : Prop := Claim7.holds Tryz.pinned (.plain (OpenSpec.upto groveAsksSpec)) groveAsksUptoCard

/-- THE SECOND FORM's CARD OF 'incunablelaw06.GroveRefused'. -/
def groveRefusedUptoCard : Claim7 := { stood := { row := groveRefusedUptoRow, standIns := [], harness := (true, "178fadcdcff03321797c71f59ffe15781e5ee24b212b483018f71e9985f9f65e"), looks := false }, kinds := [], alts := [], laidByText := true, laidKinds := [.data], laidTests := true, laidLooks := .later }
def GroveRefusedUptoCardSaid : Prop := Claim7.holds Tryz.pinned (.plain (OpenSpec.upto groveRefusedSpec)) groveRefusedUptoCard

/-- THE SECOND FORM's CARD OF 'incunablelaw06.GroveTurns'. -/
def groveTurnsUptoCard : Claim7 := { stood := { row := groveTurnsUptoRow, standIns := [], harness := (true, "178fadcdcff03321797c71f59ffe15781e5ee24b212b483018f71e9985f9f65e"), looks := false }, kinds := [], alts := [], laidByText := true, laidKinds := [.data], laidTests := true, laidLooks := .later }
def GroveTurnsUptoCardSaid : Prop := Claim7.holds Tryz.pinned (.plain (OpenSpec.upto groveTurnsSpec)) groveTurnsUptoCard
end Rows
end Go.Proofs.YtmnegpdegfianaaGreatDoor
