/-
  DERIVED. GIVEN WITH THE SEED: THE CARDS: each row of YtmgemdhpjibdiaaDoorRows.lean that lists a variable, with what it lists TIED to the program's text (the seventh form; the later family's looks); each row that meets fmt, with fmt's text TOLD by the authors' own Lean function (tested against real Go, not proved from fmt's source: count such statements apart). THE CARD IS WHAT COUNTS. Prove the row's statement (the work); the ties are given (YtmgemdhpjibdiaaDoorTie.lean); close each card by the builder's one call (the guide's Derived/Test/ToyasCard.lean, 'card_holds'). Laid BY PROGRAM, IN A SANDBOX (cutbox-door.mjs). By AI agents, Wed Nov 11 2026. No macro, syntax, notation, axiom, sorry.
-/
import Derived.Test.YtmgemdhpjibdiaaDoorRows
import GoSem.ClaimSeven
namespace Go.Proofs.YtmgemdhpjibdiaaDoor
namespace Rows

/-- THE TIED CARD OF 'incunablelaw06.GroveShape'. -/
def groveShapeCard : Claim7 := { stood := { row := groveShapeRow, standIns := [], harness := (true, "d0b1aa1bc32ec89b7d9f0f3330363e8e785a3615395fd22fd50e1d53a59b985c"), looks := false }, kinds := [], alts := [], laidByText := true, laidKinds := [.data], laidTests := true, laidLooks := .later }
def GroveShapeCardSaid : Prop := Claim7.holds Tryd.pinned (.plain (OpenSpec.ofChange groveShapeSpec)) groveShapeCard

/-- THE TIED CARD OF 'incunablelaw06.GroveIds'. -/
def groveIdsCard : Claim7 := { stood := { row := groveIdsRow, standIns := [], harness := (true, "d0b1aa1bc32ec89b7d9f0f3330363e8e785a3615395fd22fd50e1d53a59b985c"), looks := false }, kinds := [], alts := [], laidByText := true, laidKinds := [.data], laidTests := true, laidLooks := .later }
def GroveIdsCardSaid : Prop := Claim7.holds Tryd.pinned (.plain (OpenSpec.ofChange groveIdsSpec)) groveIdsCard

/-- THE TIED CARD OF 'incunablelaw06.GroveCounts'. -/
def groveCountsCard : Claim7 := { stood := { row := groveCountsRow, standIns := [], harness := (true, "d0b1aa1bc32ec89b7d9f0f3330363e8e785a3615395fd22fd50e1d53a59b985c"), looks := false }, kinds := [], alts := [], laidByText := true, laidKinds := [.data], laidTests := true, laidLooks := .later }
def GroveCountsCardSaid : Prop := Claim7.holds Tryd.pinned (.plain (OpenSpec.ofChange groveCountsSpec)) groveCountsCard

/-- THE TIED CARD OF 'incunablelaw07.PathqReads'. -/
def pathqReadsCard : Claim7 := { stood := { row := pathqReadsRow, standIns := [], harness := (true, "d0b1aa1bc32ec89b7d9f0f3330363e8e785a3615395fd22fd50e1d53a59b985c"), looks := false }, kinds := [], alts := [], laidByText := true, laidKinds := [.data, .data, .data, .data, .data, .data], laidTests := true, laidLooks := .later }
def PathqReadsCardSaid : Prop := Claim7.holds Tryd.pinned (.plain (OpenSpec.ofChange pathqReadsSpec)) pathqReadsCard

/-- THE SECOND FORM's CARD OF 'incunablelaw06.GroveShape'. -/
def groveShapeUptoCard : Claim7 := { stood := { row := groveShapeUptoRow, standIns := [], harness := (true, "d0b1aa1bc32ec89b7d9f0f3330363e8e785a3615395fd22fd50e1d53a59b985c"), looks := false }, kinds := [], alts := [], laidByText := true, laidKinds := [.data], laidTests := true, laidLooks := .later }
def GroveShapeUptoCardSaid : Prop := Claim7.holds Tryd.pinned (.plain (OpenSpec.upto groveShapeSpec)) groveShapeUptoCard

/-- THE SECOND FORM's CARD OF 'incunablelaw06.GroveIds'. -/
def groveIdsUptoCard : Claim7 := { stood := { row := groveIdsUptoRow, standIns := [], harness := (true, "d0b1aa1bc32ec89b7d9f0f3330363e8e785a3615395fd22fd50e1d53a59b985c"), looks := false }, kinds := [], alts := [], laidByText := true, laidKinds := [.data], laidTests := true, laidLooks := .later }
def GroveIdsUptoCardSaid : Prop := Claim7.holds Tryd.pinned (.plain (OpenSpec.upto groveIdsSpec)) groveIdsUptoCard

/-- THE SECOND FORM's CARD OF 'incunablelaw06.GroveCounts'. -/
def groveCountsUptoCard : Claim7 := { stood := { row := groveCountsUptoRow, standIns := [], harness := (true, "d0b1aa1bc32ec89b7d9f0f3330363e8e785a3615395fd22fd50e1d53a59b985c"), looks := false }, kinds := [], alts := [], laidByText := true, laidKinds := [.data], laidTests := true, laidLooks := .later }
def GroveCountsUptoCardSaid : Prop := Claim7.holds Tryd.pinned (.plain (OpenSpec.upto groveCountsSpec)) groveCountsUptoCard

/-- THE SECOND FORM's CARD OF 'incunablelaw07.PathqReads'. -/
def pathqReadsUptoCard : Claim7 := { stood := { row := pathqReadsUptoRow, standIns := [], harness := (true, "d0b1aa1bc32ec89b7d9f0f3330363e8e785a3615395fd22fd50e1d53a59b985c"), looks := false }, kinds := [], alts := [], laidByText := true, laidKinds := [.data, .data, .data, .data, .data, .data], laidTests := true, laidLooks := .later }
def PathqReadsUptoCardSaid : Prop := Claim7.holds Tryd.pinned (.plain (OpenSpec.upto pathqReadsSpec)) pathqReadsUptoCard
end Rows
end Go.Proofs.YtmgemdhpjibdiaaDoor
