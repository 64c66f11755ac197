/-
  DERIVED. GIVEN WITH THE SEED: THE CARDS: each row of YthgdjdagmijkfaaDoorRows.lean that lists a variable, with what it lists TIED to the program's text (the seventh form; the later family's looks); each row that meets fmt, with fmt's text TOLD by the authors' own Lean function (tested against real Go, not proved from fmt's source: count such statements apart). THE CARD IS WHAT COUNTS. Prove the row's statement (the work); the ties are given (YthgdjdagmijkfaaDoorTie.lean); close each card by the builder's one call (the guide's Derived/Test/ToyasCard.lean, 'card_holds'). Laid BY PROGRAM, IN A SANDBOX (cutbox-door.mjs). By AI agents, Wed Nov 11 2026. No macro, syntax, notation, axiom, sorry.
-/
import Derived.Test.YthgdjdagmijkfaaDoorRows
import GoSem.ClaimSeven
namespace Go.Proofs.YthgdjdagmijkfaaDoor
namespace Rows

/-- THE TIED CARD OF 'incunablelaw01.GlyphKinds'. -/
def glyphKindsCard : Claim7 := { stood := { row := glyphKindsRow, standIns := [], harness := (true, "521a9c850b34f84ce7f27a65dd9fc60d8ff554941ad5f7db87e3ce4b6b9d8765"), looks := false }, kinds := [], alts := [], laidByText := true, laidKinds := [.data], laidTests := true, laidLooks := .later }
def GlyphKindsCardSaid : Prop := Claim7.holds Tryd.pinned (.plain (OpenSpec.ofChange glyphKindsSpec)) glyphKindsCard

/-- THE TIED CARD OF 'incunablelaw01.GlyphPuts'. -/
def glyphPutsCard : Claim7 := { stood := { row := glyphPutsRow, standIns := [], harness := (true, "521a9c850b34f84ce7f27a65dd9fc60d8ff554941ad5f7db87e3ce4b6b9d8765"), looks := false }, kinds := [], alts := [], laidByText := true, laidKinds := [.data], laidTests := true, laidLooks := .later }
def GlyphPutsCardSaid : Prop := Claim7.holds Tryd.pinned (.plain (OpenSpec.ofChange glyphPutsSpec)) glyphPutsCard

/-- THE TIED CARD OF 'incunablelaw01.GlyphNexts'. -/
def glyphNextsCard : Claim7 := { stood := { row := glyphNextsRow, standIns := [], harness := (true, "521a9c850b34f84ce7f27a65dd9fc60d8ff554941ad5f7db87e3ce4b6b9d8765"), looks := false }, kinds := [], alts := [], laidByText := true, laidKinds := [.data], laidTests := true, laidLooks := .later }
def GlyphNextsCardSaid : Prop := Claim7.holds Tryd.pinned (.plain (OpenSpec.ofChange glyphNextsSpec)) glyphNextsCard

/-- THE TIED CARD OF 'incunablelaw01.GlyphCounts'. -/
def glyphCountsCard : Claim7 := { stood := { row := glyphCountsRow, standIns := [], harness := (true, "521a9c850b34f84ce7f27a65dd9fc60d8ff554941ad5f7db87e3ce4b6b9d8765"), looks := false }, kinds := [], alts := [], laidByText := true, laidKinds := [.data], laidTests := true, laidLooks := .later }
def GlyphCountsCardSaid : Prop := Claim7.holds Tryd.pinned (.plain (OpenSpec.ofChange glyphCountsSpec)) glyphCountsCard

/-- THE TIED CARD OF 'incunablelaw01.GlyphNames'. -/
def glyphNamesCard : Claim7 := { stood := { row := glyphNamesRow, standIns := [], harness := (true, "521a9c850b34f84ce7f27a65dd9fc60d8ff554941ad5f7db87e3ce4b6b9d8765"), looks := false }, kinds := [], alts := [], laidByText := true, laidKinds := [.data], laidTests := true, laidLooks := .later }
def GlyphNamesCardSaid : Prop := Claim7.holds Tryd.pinned (.plain (OpenSpec.ofChange glyphNamesSpec)) glyphNamesCard

/-- THE TIED CARD OF 'incunablelaw01.GlyphOrder'. -/
def glyphOrderCard : Claim7 := { stood := { row := glyphOrderRow, standIns := [], harness := (true, "521a9c850b34f84ce7f27a65dd9fc60d8ff554941ad5f7db87e3ce4b6b9d8765"), looks := false }, kinds := [], alts := [], laidByText := true, laidKinds := [.data], laidTests := true, laidLooks := .later }
def GlyphOrderCardSaid : Prop := Claim7.holds Tryd.pinned (.plain (OpenSpec.ofChange glyphOrderSpec)) glyphOrderCard

/-- THE TIED CARD OF 'incunablelaw01.GlyphSteps'. -/
def glyphStepsCard : Claim7 := { stood := { row := glyphStepsRow, standIns := [], harness := (true, "521a9c850b34f84ce7f27a65dd9fc60d8ff554941ad5f7db87e3ce4b6b9d8765"), looks := false }, kinds := [], alts := [], laidByText := true, laidKinds := [.data], laidTests := true, laidLooks := .later }
def GlyphStepsCardSaid : Prop := Claim7.holds Tryd.pinned (.plain (OpenSpec.ofChange glyphStepsSpec)) glyphStepsCard

/-- THE TIED CARD OF 'incunablelaw01.GlyphAhead'. -/
def glyphAheadCard : Claim7 := { stood := { row := glyphAheadRow, standIns := [], harness := (true, "521a9c850b34f84ce7f27a65dd9fc60d8ff554941ad5f7db87e3ce4b6b9d8765"), looks := false }, kinds := [], alts := [], laidByText := true, laidKinds := [.data], laidTests := true, laidLooks := .later }
def GlyphAheadCardSaid : Prop := Claim7.holds Tryd.pinned (.plain (OpenSpec.ofChange glyphAheadSpec)) glyphAheadCard

/-- THE SECOND FORM's CARD OF 'incunablelaw01.GlyphKinds'. -/
def glyphKindsUptoCard : Claim7 := { stood := { row := glyphKindsUptoRow, standIns := [], harness := (true, "521a9c850b34f84ce7f27a65dd9fc60d8ff554941ad5f7db87e3ce4b6b9d8765"), looks := false }, kinds := [], alts := [], laidByText := true, laidKinds := [.data], laidTests := true, laidLooks := .later }
def GlyphKindsUptoCardSaid : Prop := Claim7.holds Tryd.pinned (.plain (OpenSpec.upto glyphKindsSpec)) glyphKindsUptoCard

/-- THE SECOND FORM's CARD OF 'incunablelaw01.GlyphPuts'. -/
def glyphPutsUptoCard : Claim7 := { stood := { row := glyphPutsUptoRow, standIns := [], harness := (true, "521a9c850b34f84ce7f27a65dd9fc60d8ff554941ad5f7db87e3ce4b6b9d8765"), looks := false }, kinds := [], alts := [], laidByText := true, laidKinds := [.data], laidTests := true, laidLooks := .later }
def GlyphPutsUptoCardSaid : Prop := Claim7.holds Tryd.pinned (.plain (OpenSpec.upto glyphPutsSpec)) glyphPutsUptoCard

/-- THE SECOND FORM's CARD OF 'incunablelaw01.GlyphNexts'. -/
def glyphNextsUptoCard : Claim7 := { stood := { row := glyphNextsUptoRow, standIns := [], harness := (true, "521a9c850b34f84ce7f27a65dd9fc60d8ff554941ad5f7db87e3ce4b6b9d8765"), looks := false }, kinds := [], alts := [], laidByText := true, laidKinds := [.data], laidTests := true, laidLooks := .later }
def GlyphNextsUptoCardSaid : Prop := Claim7.holds Tryd.pinned (.plain (OpenSpec.upto glyphNextsSpec)) glyphNextsUptoCard

/-- THE SECOND FORM's CARD OF 'incunablelaw01.GlyphCounts'. -/
def glyphCountsUptoCard : Claim7 := { stood := { row := glyphCountsUptoRow, standIns := [], harness := (true, "521a9c850b34f84ce7f27a65dd9fc60d8ff554941ad5f7db87e3ce4b6b9d8765"), looks := false }, kinds := [], alts := [], laidByText := true, laidKinds := [.data], laidTests := true, laidLooks := .later }
def GlyphCountsUptoCardSaid : Prop := Claim7.holds Tryd.pinned (.plain (OpenSpec.upto glyphCountsSpec)) glyphCountsUptoCard

/-- THE SECOND FORM's CARD OF 'incunablelaw01.GlyphNames'. -/
def glyphNamesUptoCard : Claim7 := { stood := { row := glyphNamesUptoRow, standIns := [], harness := (true, "521a9c850b34f84ce7f27a65dd9fc60d8ff554941ad5f7db87e3ce4b6b9d8765"), looks := false }, kinds := [], alts := [], laidByText := true, laidKinds := [.data], laidTests := true, laidLooks := .later }
def GlyphNamesUptoCardSaid : Prop := Claim7.holds Tryd.pinned (.plain (OpenSpec.upto glyphNamesSpec)) glyphNamesUptoCard

/-- THE SECOND FORM's CARD OF 'incunablelaw01.GlyphOrder'. -/
def glyphOrderUptoCard : Claim7 := { stood := { row := glyphOrderUptoRow, standIns := [], harness := (true, "521a9c850b34f84ce7f27a65dd9fc60d8ff554941ad5f7db87e3ce4b6b9d8765"), looks := false }, kinds := [], alts := [], laidByText := true, laidKinds := [.data], laidTests := true, laidLooks := .later }
def GlyphOrderUptoCardSaid : Prop := Claim7.holds Tryd.pinned (.plain (OpenSpec.upto glyphOrderSpec)) glyphOrderUptoCard

/-- THE SECOND FORM's CARD OF 'incunablelaw01.GlyphSteps'. -/
def glyphStepsUptoCard : Claim7 := { stood := { row := glyphStepsUptoRow, standIns := [], harness := (true, "521a9c850b34f84ce7f27a65dd9fc60d8ff554941ad5f7db87e3ce4b6b9d8765"), looks := false }, kinds := [], alts := [], laidByText := true, laidKinds := [.data], laidTests := true, laidLooks := .later }
def GlyphStepsUptoCardSaid : Prop := Claim7.holds Tryd.pinned (.plain (OpenSpec.upto glyphStepsSpec)) glyphStepsUptoCard

/-- THE SECOND FORM's CARD OF 'incunablelaw01.GlyphAhead'. -/
def glyphAheadUptoCard : Claim7 := { stood := { row := glyphAheadUptoRow, standIns := [], harness := (true, "521a9c850b34f84ce7f27a65dd9fc60d8ff554941ad5f7db87e3ce4b6b9d8765"), looks := false }, kinds := [], alts := [], laidByText := true, laidKinds := [.data], laidTests := true, laidLooks := .later }
def GlyphAheadUptoCardSaid : Prop := Claim7.holds Tryd.pinned (.plain (OpenSpec.upto glyphAheadSpec)) glyphAheadUptoCard
end Rows
end Go.Proofs.YthgdjdagmijkfaaDoor
