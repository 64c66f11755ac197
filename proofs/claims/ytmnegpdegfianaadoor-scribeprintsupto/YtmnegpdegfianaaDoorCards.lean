/-
  DERIVED. GIVEN WITH THE SEED: THE CARDS: each row of YtmnegpdegfianaaDoorRows.lean that lists a variable, with what it lists TIED to the program's text (the seventh form; the later family's looks); each row that meets fmt, with fmt's text TOLD by the authors' own Lean function (tested against real Go, not proved from fmt's source: count such statements apart). THE CARD IS WHAT COUNTS. Prove the row's statement (the work); the ties are given (YtmnegpdegfianaaDoorTie.lean); close each card by the builder's one call (the guide's Derived/Test/ToyasCard.lean, 'card_holds'). Laid BY PROGRAM, IN A SANDBOX (cutbox-door.mjs). By AI agents, Wed Nov 11 2026. No macro, syntax, notation, axiom, sorry.
-/
import Derived.Test.YtmnegpdegfianaaDoorRows
import GoSem.ClaimSeven
namespace Go.Proofs.YtmnegpdegfianaaDoor
namespace Rows

/-- THE TIED CARD OF 'incunablelaw05.ScribePrints'. -/
def scribePrintsCard : Claim7 := { stood := { row := scribePrintsRow, standIns := [], harness := (true, "5554f267305188bda9537874399e84025328eacb35186e300b7701edd356a21f"), looks := false }, kinds := [], alts := [], laidByText := true, laidKinds := [.data], laidTests := true, laidLooks := .later }
def ScribePrintsCardSaid : Prop := Claim7.holds Tryd.pinned (.plain (OpenSpec.ofChange scribePrintsSpec)) scribePrintsCard

/-- THE TIED CARD OF 'incunablelaw05.ScribeNormal'. -/
def scribeNormalCard : Claim7 := { stood := { row := scribeNormalRow, standIns := [], harness := (true, "5554f267305188bda9537874399e84025328eacb35186e300b7701edd356a21f"), looks := false }, kinds := [], alts := [], laidByText := true, laidKinds := [.data], laidTests := true, laidLooks := .later }
def ScribeNormalCardSaid : Prop := Claim7.holds Tryd.pinned (.plain (OpenSpec.ofChange scribeNormalSpec)) scribeNormalCard

/-- THE TIED CARD OF 'incunablelaw05.ScribeOnce'. -/
def scribeOnceCard : Claim7 := { stood := { row := scribeOnceRow, standIns := [], harness := (true, "5554f267305188bda9537874399e84025328eacb35186e300b7701edd356a21f"), looks := false }, kinds := [], alts := [], laidByText := true, laidKinds := [.data], laidTests := true, laidLooks := .later }
def ScribeOnceCardSaid : Prop := Claim7.holds Tryd.pinned (.plain (OpenSpec.ofChange scribeOnceSpec)) scribeOnceCard

/-- THE TIED CARD OF 'incunablelaw05.ScribeOwn'. -/
def scribeOwnCard : Claim7 := { stood := { row := scribeOwnRow, standIns := [], harness := (true, "5554f267305188bda9537874399e84025328eacb35186e300b7701edd356a21f"), looks := false }, kinds := [], alts := [], laidByText := true, laidKinds := [.data], laidTests := true, laidLooks := .later }
def ScribeOwnCardSaid : Prop := Claim7.holds Tryd.pinned (.plain (OpenSpec.ofChange scribeOwnSpec)) scribeOwnCard

/-- THE TIED CARD OF 'incunablelaw05.ScribeEqual'. -/
def scribeEqualCard : Claim7 := { stood := { row := scribeEqualRow, standIns := [], harness := (true, "5554f267305188bda9537874399e84025328eacb35186e300b7701edd356a21f"), looks := false }, kinds := [], alts := [], laidByText := true, laidKinds := [.data], laidTests := true, laidLooks := .later }
def ScribeEqualCardSaid : Prop := Claim7.holds Tryd.pinned (.plain (OpenSpec.ofChange scribeEqualSpec)) scribeEqualCard

/-- THE TIED CARD OF 'incunablelaw06.GroveShape'. -/
def groveShapeCard : Claim7 := { stood := { row := groveShapeRow, standIns := [], harness := (true, "5554f267305188bda9537874399e84025328eacb35186e300b7701edd356a21f"), looks := false }, kinds := [], alts := [], laidByText := true, laidKinds := [.data], laidTests := true, laidLooks := .later }
def GroveShapeCardSaid : Prop := Claim7.holds Tryd.pinned (.plain (OpenSpec.ofChange groveShapeSpec)) groveShapeCard

/-- THE SECOND FORM's CARD OF 'incunablelaw05.ScribePrints'. -/
def scribePrintsUptoCard : Claim7 := { stood := { row := scribePrintsUptoRow, standIns := [], harness := (true, "5554f267305188bda9537874399e84025328eacb35186e300b7701edd356a21f"), looks := false }, kinds := [], alts := [], laidByText := true, laidKinds := [.data], laidTests := true, laidLooks := .later }
def ScribePrintsUptoCardSaid : Prop := Claim7.holds Tryd.pinned (.plain (OpenSpec.upto scribePrintsSpec)) scribePrintsUptoCard

/-- THE SECOND FORM's CARD OF 'incunablelaw05.ScribeNormal'. -/
def scribeNormalUptoCard : Claim7 := { stood := { row := scribeNormalUptoRow, standIns := [], harness := (true, "5554f267305188bda9537874399e84025328eacb35186e300b7701edd356a21f"), looks := false }, kinds := [], alts := [], laidByText := true, laidKinds := [.data], laidTests := true, laidLooks := .later }
def ScribeNormalUptoCardSaid : Prop := Claim7.holds Tryd.pinned (.plain (OpenSpec.upto scribeNormalSpec)) scribeNormalUptoCard

/-- THE SECOND FORM's CARD OF 'incunablelaw05.ScribeOnce'. -/
def scribeOnceUptoCard : Claim7 := { stood := { row := scribeOnceUptoRow, standIns := [], harness := (true, "5554f267305188bda9537874399e84025328eacb35186e300b7701edd356a21f"), looks := false }, kinds := [], alts := [], laidByText := true, laidKinds := [.data], laidTests := true, laidLooks := .later }
def ScribeOnceUptoCardSaid : Prop := Claim7.holds Tryd.pinned (.plain (OpenSpec.upto scribeOnceSpec)) scribeOnceUptoCard

/-- THE SECOND FORM's CARD OF 'incunablelaw05.ScribeOwn'. -/
def scribeOwnUptoCard : Claim7 := { stood := { row := scribeOwnUptoRow, standIns := [], harness := (true, "5554f267305188bda9537874399e84025328eacb35186e300b7701edd356a21f"), looks := false }, kinds := [], alts := [], laidByText := true, laidKinds := [.data], laidTests := true, laidLooks := .later }
def ScribeOwnUptoCardSaid : Prop := Claim7.holds Tryd.pinned (.plain (OpenSpec.upto scribeOwnSpec)) scribeOwnUptoCard

/-- THE SECOND FORM's CARD OF 'incunablelaw05.ScribeEqual'. -/
def scribeEqualUptoCard : Claim7 := { stood := { row := scribeEqualUptoRow, standIns := [], harness := (true, "5554f267305188bda9537874399e84025328eacb35186e300b7701edd356a21f"), looks := false }, kinds := [], alts := [], laidByText := true, laidKinds := [.data], laidTests := true, laidLooks := .later }
def ScribeEqualUptoCardSaid : Prop := Claim7.holds Tryd.pinned (.plain (OpenSpec.upto scribeEqualSpec)) scribeEqualUptoCard

/-- THE SECOND FORM's CARD OF 'incunablelaw06.GroveShape'. -/
def groveShapeUptoCard : Claim7 := { stood := { row := groveShapeUptoRow, standIns := [], harness := (true, "5554f267305188bda9537874399e84025328eacb35186e300b7701edd356a21f"), looks := false }, kinds := [], alts := [], laidByText := true, laidKinds := [.data], laidTests := true, laidLooks := .later }
def GroveShapeUptoCardSaid : Prop := Claim7.holds Tryd.pinned (.plain (OpenSpec.upto groveShapeSpec)) groveShapeUptoCard
end Rows
end Go.Proofs.YtmnegpdegfianaaDoor
