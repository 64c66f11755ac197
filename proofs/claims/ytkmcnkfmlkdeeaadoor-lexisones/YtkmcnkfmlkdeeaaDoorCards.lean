/-
  DERIVED. GIVEN WITH THE SEED: THE CARDS: each row of YtkmcnkfmlkdeeaaDoorRows.lean that lists a variable, with what it lists TIED to the program's text (the seventh form; the later family's looks); each row that meets fmt, with fmt's text TOLD by the authors' own Lean function (tested against real Go, not proved from fmt's source: count such statements apart). THE CARD IS WHAT COUNTS. Prove the row's statement (the work); the ties are given (YtkmcnkfmlkdeeaaDoorTie.lean); close each card by the builder's one call (the guide's Derived/Test/ToyasCard.lean, 'card_holds'). Laid BY PROGRAM, IN A SANDBOX (cutbox-door.mjs). By AI agents, Wed Nov 11 2026. No macro, syntax, notation, axiom, sorry.
-/
import Derived.Test.YtkmcnkfmlkdeeaaDoorRows
import GoSem.ClaimSeven
namespace Go.Proofs.YtkmcnkfmlkdeeaaDoor
namespace Rows

/-- THE TIED CARD OF 'incunablelaw03.LexisOnes'. -/
def lexisOnesCard : Claim7 := { stood := { row := lexisOnesRow, standIns := [], harness := (true, "f1a41f89086e81cd03979b9b8faa94f5e44ecf1bf7d3876dd973112566a88f51"), looks := false }, kinds := [], alts := [], laidByText := true, laidKinds := [.data], laidTests := true, laidLooks := .later }
def LexisOnesCardSaid : Prop := Claim7.holds Tryd.pinned (.plain (OpenSpec.ofChange lexisOnesSpec)) lexisOnesCard

/-- THE TIED CARD OF 'incunablelaw03.LexisRow'. -/
def lexisRowCard : Claim7 := { stood := { row := lexisRowRow, standIns := [], harness := (true, "f1a41f89086e81cd03979b9b8faa94f5e44ecf1bf7d3876dd973112566a88f51"), looks := false }, kinds := [], alts := [], laidByText := true, laidKinds := [.data], laidTests := true, laidLooks := .later }
def LexisRowCardSaid : Prop := Claim7.holds Tryd.pinned (.plain (OpenSpec.ofChange lexisRowSpec)) lexisRowCard

/-- THE TIED CARD OF 'incunablelaw03.LexisBlanks'. -/
def lexisBlanksCard : Claim7 := { stood := { row := lexisBlanksRow, standIns := [], harness := (true, "f1a41f89086e81cd03979b9b8faa94f5e44ecf1bf7d3876dd973112566a88f51"), looks := false }, kinds := [], alts := [], laidByText := true, laidKinds := [.data], laidTests := true, laidLooks := .later }
def LexisBlanksCardSaid : Prop := Claim7.holds Tryd.pinned (.plain (OpenSpec.ofChange lexisBlanksSpec)) lexisBlanksCard

/-- THE TIED CARD OF 'incunablelaw03.LexisAhead'. -/
def lexisAheadCard : Claim7 := { stood := { row := lexisAheadRow, standIns := [], harness := (true, "f1a41f89086e81cd03979b9b8faa94f5e44ecf1bf7d3876dd973112566a88f51"), looks := false }, kinds := [], alts := [], laidByText := true, laidKinds := [.data], laidTests := true, laidLooks := .later }
def LexisAheadCardSaid : Prop := Claim7.holds Tryd.pinned (.plain (OpenSpec.ofChange lexisAheadSpec)) lexisAheadCard

/-- THE TIED CARD OF 'incunablelaw03.LexisParts'. -/
def lexisPartsCard : Claim7 := { stood := { row := lexisPartsRow, standIns := [], harness := (true, "f1a41f89086e81cd03979b9b8faa94f5e44ecf1bf7d3876dd973112566a88f51"), looks := false }, kinds := [], alts := [], laidByText := true, laidKinds := [.data], laidTests := true, laidLooks := .later }
def LexisPartsCardSaid : Prop := Claim7.holds Tryd.pinned (.plain (OpenSpec.ofChange lexisPartsSpec)) lexisPartsCard

/-- THE SECOND FORM's CARD OF 'incunablelaw03.LexisOnes'. -/
def lexisOnesUptoCard : Claim7 := { stood := { row := lexisOnesUptoRow, standIns := [], harness := (true, "f1a41f89086e81cd03979b9b8faa94f5e44ecf1bf7d3876dd973112566a88f51"), looks := false }, kinds := [], alts := [], laidByText := true, laidKinds := [.data], laidTests := true, laidLooks := .later }
def LexisOnesUptoCardSaid : Prop := Claim7.holds Tryd.pinned (.plain (OpenSpec.upto lexisOnesSpec)) lexisOnesUptoCard

/-- THE SECOND FORM's CARD OF 'incunablelaw03.LexisRow'. -/
def lexisRowUptoCard : Claim7 := { stood := { row := lexisRowUptoRow, standIns := [], harness := (true, "f1a41f89086e81cd03979b9b8faa94f5e44ecf1bf7d3876dd973112566a88f51"), looks := false }, kinds := [], alts := [], laidByText := true, laidKinds := [.data], laidTests := true, laidLooks := .later }
def LexisRowUptoCardSaid : Prop := Claim7.holds Tryd.pinned (.plain (OpenSpec.upto lexisRowSpec)) lexisRowUptoCard

/-- THE SECOND FORM's CARD OF 'incunablelaw03.LexisBlanks'. -/
def lexisBlanksUptoCard : Claim7 := { stood := { row := lexisBlanksUptoRow, standIns := [], harness := (true, "f1a41f89086e81cd03979b9b8faa94f5e44ecf1bf7d3876dd973112566a88f51"), looks := false }, kinds := [], alts := [], laidByText := true, laidKinds := [.data], laidTests := true, laidLooks := .later }
def LexisBlanksUptoCardSaid : Prop := Claim7.holds Tryd.pinned (.plain (OpenSpec.upto lexisBlanksSpec)) lexisBlanksUptoCard

/-- THE SECOND FORM's CARD OF 'incunablelaw03.LexisAhead'. -/
def lexisAheadUptoCard : Claim7 := { stood := { row := lexisAheadUptoRow, standIns := [], harness := (true, "f1a41f89086e81cd03979b9b8faa94f5e44ecf1bf7d3876dd973112566a88f51"), looks := false }, kinds := [], alts := [], laidByText := true, laidKinds := [.data], laidTests := true, laidLooks := .later }
def LexisAheadUptoCardSaid : Prop := Claim7.holds Tryd.pinned (.plain (OpenSpec.upto lexisAheadSpec)) lexisAheadUptoCard

/-- THE SECOND FORM's CARD OF 'incunablelaw03.LexisParts'. -/
def lexisPartsUptoCard : Claim7 := { stood := { row := lexisPartsUptoRow, standIns := [], harness := (true, "f1a41f89086e81cd03979b9b8faa94f5e44ecf1bf7d3876dd973112566a88f51"), looks := false }, kinds := [], alts := [], laidByText := true, laidKinds := [.data], laidTests := true, laidLooks := .later }
def LexisPartsUptoCardSaid : Prop := Claim7.holds Tryd.pinned (.plain (OpenSpec.upto lexisPartsSpec)) lexisPartsUptoCard
end Rows
end Go.Proofs.YtkmcnkfmlkdeeaaDoor
