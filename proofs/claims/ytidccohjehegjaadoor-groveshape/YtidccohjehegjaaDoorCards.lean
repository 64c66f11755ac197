/-
  DERIVED. GIVEN WITH THE SEED: THE CARDS: each row of YtidccohjehegjaaDoorRows.lean that lists a variable, with what it lists TIED to the program's text (the seventh form; the later family's looks); each row that meets fmt, with fmt's text TOLD by the authors' own Lean function (tested against real Go, not proved from fmt's source: count such statements apart). THE CARD IS WHAT COUNTS. Prove the row's statement (the work); the ties are given (YtidccohjehegjaaDoorTie.lean); close each card by the builder's one call (the guide's Derived/Test/ToyasCard.lean, 'card_holds'). Laid BY PROGRAM, IN A SANDBOX (cutbox-door.mjs). By AI agents, Wed Nov 11 2026. No macro, syntax, notation, axiom, sorry.
-/
import Derived.Test.YtidccohjehegjaaDoorRows
import GoSem.ClaimSeven
namespace Go.Proofs.YtidccohjehegjaaDoor
namespace Rows

/-- THE TIED CARD OF 'incunablelaw06.GroveShape'. -/
def groveShapeCard : Claim7 := { stood := { row := groveShapeRow, standIns := [], harness := (true, "e13334a3dee5255cb2563416077bb37dcac46687af2da21093112bb0487cd88d"), looks := false }, kinds := [], alts := [], laidByText := true, laidKinds := [.data], laidTests := true, laidLooks := .later }
def GroveShapeCardSaid : Prop := Claim7.holds Tryd.pinned (.plain (OpenSpec.ofChange groveShapeSpec)) groveShapeCard

/-- THE TIED CARD OF 'incunablelaw06.GroveIds'. -/
def groveIdsCard : Claim7 := { stood := { row := groveIdsRow, standIns := [], harness := (true, "e13334a3dee5255cb2563416077bb37dcac46687af2da21093112bb0487cd88d"), looks := false }, kinds := [], alts := [], laidByText := true, laidKinds := [.data], laidTests := true, laidLooks := .later }
def GroveIdsCardSaid : Prop := Claim7.holds Tryd.pinned (.plain (OpenSpec.ofChange groveIdsSpec)) groveIdsCard

/-- THE TIED CARD OF 'incunablelaw06.GroveCounts'. -/
def groveCountsCard : Claim7 := { stood := { row := groveCountsRow, standIns := [], harness := (true, "e13334a3dee5255cb2563416077bb37dcac46687af2da21093112bb0487cd88d"), looks := false }, kinds := [], alts := [], laidByText := true, laidKinds := [.data], laidTests := true, laidLooks := .later }
def GroveCountsCardSaid : Prop := Claim7.holds Tryd.pinned (.plain (OpenSpec.ofChange groveCountsSpec)) groveCountsCard

/-- THE SECOND FORM's CARD OF 'incunablelaw06.GroveShape'. -/
def groveShapeUptoCard : Claim7 := { stood := { row := groveShapeUptoRow, standIns := [], harness := (true, "e13334a3dee5255cb2563416077bb37dcac46687af2da21093112bb0487cd88d"), looks := false }, kinds := [], alts := [], laidByText := true, laidKinds := [.data], laidTests := true, laidLooks := .later }
def GroveShapeUptoCardSaid : Prop := Claim7.holds Tryd.pinned (.plain (OpenSpec.upto groveShapeSpec)) groveShapeUptoCard

/-- THE SECOND FORM's CARD OF 'incunablelaw06.GroveIds'. -/
def groveIdsUptoCard : Claim7 := { stood := { row := groveIdsUptoRow, standIns := [], harness := (true, "e13334a3dee5255cb2563416077bb37dcac46687af2da21093112bb0487cd88d"), looks := false }, kinds := [], alts := [], laidByText := true, laidKinds := [.data], laidTests := true, laidLooks := .later }
def GroveIdsUptoCardSaid : Prop := Claim7.holds Tryd.pinned (.plain (OpenSpec.upto groveIdsSpec)) groveIdsUptoCard

/-- THE SECOND FORM's CARD OF 'incunablelaw06.GroveCounts'. -/
def groveCountsUptoCard : Claim7 := { stood := { row := groveCountsUptoRow, standIns := [], harness := (true, "e13334a3dee5255cb2563416077bb37dcac46687af2da21093112bb0487cd88d"), looks := false }, kinds := [], alts := [], laidByText := true, laidKinds := [.data], laidTests := true, laidLooks := .later }
def GroveCountsUptoCardSaid : Prop := Claim7.holds Tryd.pinned (.plain (OpenSpec.upto groveCountsSpec)) groveCountsUptoCard
end Rows
end Go.Proofs.YtidccohjehegjaaDoor
