/-
  DERIVED. GIVEN WITH THE SEED: THE CARDS: each row of YtafjffnijonglaaDoorRows.lean that lists a variable, with what it lists TIED to the program's text (the seventh form; the later family's looks); each row that meets fmt, with fmt's text TOLD by the authors' own Lean function (tested against real Go, not proved from fmt's source: count such statements apart). THE CARD IS WHAT COUNTS. Prove the row's statement (the work); the ties are given (YtafjffnijonglaaDoorTie.lean); close each card by the builder's one call (the guide's Derived/Test/ToyasCard.lean, 'card_holds'). Laid BY PROGRAM, IN A SANDBOX (cutbox-door.mjs). By AI agents, Wed Nov 11 2026. No macro, syntax, notation, axiom, sorry.
-/
import Derived.Test.YtafjffnijonglaaDoorRows
import GoSem.ClaimSeven
namespace Go.Proofs.YtafjffnijonglaaDoor
namespace Rows

/-- THE TIED CARD OF 'incunablelaw03.LexisBlanks'. -/
def lexisBlanksCard : Claim7 := { stood := { row := lexisBlanksRow, standIns := [], harness := (true, "8ee57be56e7f3059604ae5ca25d7c3c8d027bff6c198b0c476576d97dfc87f31"), looks := false }, kinds := [], alts := [], laidByText := true, laidKinds := [.data], laidTests := true, laidLooks := .later }
def LexisBlanksCardSaid : Prop := Claim7.holds Tryd.pinned (.plain (OpenSpec.ofChange lexisBlanksSpec)) lexisBlanksCard

/-- THE TIED CARD OF 'incunablelaw03.LexisParts'. -/
def lexisPartsCard : Claim7 := { stood := { row := lexisPartsRow, standIns := [], harness := (true, "8ee57be56e7f3059604ae5ca25d7c3c8d027bff6c198b0c476576d97dfc87f31"), looks := false }, kinds := [], alts := [], laidByText := true, laidKinds := [.data], laidTests := true, laidLooks := .later }
def LexisPartsCardSaid : Prop := Claim7.holds Tryd.pinned (.plain (OpenSpec.ofChange lexisPartsSpec)) lexisPartsCard

/-- THE TIED CARD OF 'incunablelaw04.ParseRight'. -/
def parseRightCard : Claim7 := { stood := { row := parseRightRow, standIns := [], harness := (true, "8ee57be56e7f3059604ae5ca25d7c3c8d027bff6c198b0c476576d97dfc87f31"), looks := false }, kinds := [], alts := [], laidByText := true, laidKinds := [.data], laidTests := true, laidLooks := .later }
def ParseRightCardSaid : Prop := Claim7.holds Tryd.pinned (.plain (OpenSpec.ofChange parseRightSpec)) parseRightCard

/-- THE TIED CARD OF 'incunablelaw04.ParsePlaces'. -/
def parsePlacesCard : Claim7 := { stood := { row := parsePlacesRow, standIns := [], harness := (true, "8ee57be56e7f3059604ae5ca25d7c3c8d027bff6c198b0c476576d97dfc87f31"), looks := false }, kinds := [], alts := [], laidByText := true, laidKinds := [.data], laidTests := true, laidLooks := .later }
def ParsePlacesCardSaid : Prop := Claim7.holds Tryd.pinned (.plain (OpenSpec.ofChange parsePlacesSpec)) parsePlacesCard

/-- THE TIED CARD OF 'incunablelaw04.ParseShape'. -/
def parseShapeCard : Claim7 := { stood := { row := parseShapeRow, standIns := [], harness := (true, "8ee57be56e7f3059604ae5ca25d7c3c8d027bff6c198b0c476576d97dfc87f31"), looks := false }, kinds := [], alts := [], laidByText := true, laidKinds := [.data], laidTests := true, laidLooks := .later }
def ParseShapeCardSaid : Prop := Claim7.holds Tryd.pinned (.plain (OpenSpec.ofChange parseShapeSpec)) parseShapeCard

/-- THE TIED CARD OF 'incunablelaw04.ParseWraps'. -/
def parseWrapsCard : Claim7 := { stood := { row := parseWrapsRow, standIns := [], harness := (true, "8ee57be56e7f3059604ae5ca25d7c3c8d027bff6c198b0c476576d97dfc87f31"), looks := false }, kinds := [], alts := [], laidByText := true, laidKinds := [.data], laidTests := true, laidLooks := .later }
def ParseWrapsCardSaid : Prop := Claim7.holds Tryd.pinned (.plain (OpenSpec.ofChange parseWrapsSpec)) parseWrapsCard

/-- THE SECOND FORM's CARD OF 'incunablelaw03.LexisBlanks'. -/
def lexisBlanksUptoCard : Claim7 := { stood := { row := lexisBlanksUptoRow, standIns := [], harness := (true, "8ee57be56e7f3059604ae5ca25d7c3c8d027bff6c198b0c476576d97dfc87f31"), looks := false }, kinds := [], alts := [], laidByText := true, laidKinds := [.data], laidTests := true, laidLooks := .later }
def LexisBlanksUptoCardSaid : Prop := Claim7.holds Tryd.pinned (.plain (OpenSpec.upto lexisBlanksSpec)) lexisBlanksUptoCard

/-- THE SECOND FORM's CARD OF 'incunablelaw03.LexisParts'. -/
def lexisPartsUptoCard : Claim7 := { stood := { row := lexisPartsUptoRow, standIns := [], harness := (true, "8ee57be56e7f3059604ae5ca25d7c3c8d027bff6c198b0c476576d97dfc87f31"), looks := false }, kinds := [], alts := [], laidByText := true, laidKinds := [.data], laidTests := true, laidLooks := .later }
def LexisPartsUptoCardSaid : Prop := Claim7.holds Tryd.pinned (.plain (OpenSpec.upto lexisPartsSpec)) lexisPartsUptoCard

/-- THE SECOND FORM's CARD OF 'incunablelaw04.ParseRight'. -/
def parseRightUptoCard : Claim7 := { stood := { row := parseRightUptoRow, standIns := [], harness := (true, "8ee57be56e7f3059604ae5ca25d7c3c8d027bff6c198b0c476576d97dfc87f31"), looks := false }, kinds := [], alts := [], laidByText := true, laidKinds := [.data], laidTests := true, laidLooks := .later }
def ParseRightUptoCardSaid : Prop := Claim7.holds Tryd.pinned (.plain (OpenSpec.upto parseRightSpec)) parseRightUptoCard

/-- THE SECOND FORM's CARD OF 'incunablelaw04.ParsePlaces'. -/
def parsePlacesUptoCard : Claim7 := { stood := { row := parsePlacesUptoRow, standIns := [], harness := (true, "8ee57be56e7f3059604ae5ca25d7c3c8d027bff6c198b0c476576d97dfc87f31"), looks := false }, kinds := [], alts := [], laidByText := true, laidKinds := [.data], laidTests := true, laidLooks := .later }
def ParsePlacesUptoCardSaid : Prop := Claim7.holds Tryd.pinned (.plain (OpenSpec.upto parsePlacesSpec)) parsePlacesUptoCard

/-- THE SECOND FORM's CARD OF 'incunablelaw04.ParseShape'. -/
def parseShapeUptoCard : Claim7 := { stood := { row := parseShapeUptoRow, standIns := [], harness := (true, "8ee57be56e7f3059604ae5ca25d7c3c8d027bff6c198b0c476576d97dfc87f31"), looks := false }, kinds := [], alts := [], laidByText := true, laidKinds := [.data], laidTests := true, laidLooks := .later }
def ParseShapeUptoCardSaid : Prop := Claim7.holds Tryd.pinned (.plain (OpenSpec.upto parseShapeSpec)) parseShapeUptoCard

/-- THE SECOND FORM's CARD OF 'incunablelaw04.ParseWraps'. -/
def parseWrapsUptoCard : Claim7 := { stood := { row := parseWrapsUptoRow, standIns := [], harness := (true, "8ee57be56e7f3059604ae5ca25d7c3c8d027bff6c198b0c476576d97dfc87f31"), looks := false }, kinds := [], alts := [], laidByText := true, laidKinds := [.data], laidTests := true, laidLooks := .later }
def ParseWrapsUptoCardSaid : Prop := Claim7.holds Tryd.pinned (.plain (OpenSpec.upto parseWrapsSpec)) parseWrapsUptoCard
end Rows
end Go.Proofs.YtafjffnijonglaaDoor
