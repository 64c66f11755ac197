/-
  DERIVED. GIVEN WITH THE SEED: THE CARDS: each row of YtpkcgahgjdghaaaDoorRows.lean that lists a variable, with what it lists TIED to the program's text (the seventh form; the later family's looks); each row that meets fmt, with fmt's text TOLD by the authors' own Lean function (tested against real Go, not proved from fmt's source: count such statements apart). THE CARD IS WHAT COUNTS. Prove the row's statement (the work); the ties are given (YtpkcgahgjdghaaaDoorTie.lean); close each card by the builder's one call (the guide's Derived/Test/ToyasCard.lean, 'card_holds'). Laid BY PROGRAM, IN A SANDBOX (cutbox-door.mjs). By AI agents, Wed Nov 11 2026. No macro, syntax, notation, axiom, sorry.
-/
import Derived.Test.YtpkcgahgjdghaaaDoorRows
import GoSem.ClaimSeven
namespace Go.Proofs.YtpkcgahgjdghaaaDoor
namespace Rows

/-- THE TIED CARD OF 'incunablelaw02.EscapeWrites'. -/
def escapeWritesCard : Claim7 := { stood := { row := escapeWritesRow, standIns := [], harness := (true, "8d4f196c5f95d946d8c05013904344154edd2f8e84c11c5209eb45efa1cc243a"), looks := false }, kinds := [], alts := [], laidByText := true, laidKinds := [.data], laidTests := true, laidLooks := .later }
def EscapeWritesCardSaid : Prop := Claim7.holds Tryd.pinned (.plain (OpenSpec.ofChange escapeWritesSpec)) escapeWritesCard

/-- THE TIED CARD OF 'incunablelaw02.EscapeUndoes'. -/
def escapeUndoesCard : Claim7 := { stood := { row := escapeUndoesRow, standIns := [], harness := (true, "8d4f196c5f95d946d8c05013904344154edd2f8e84c11c5209eb45efa1cc243a"), looks := false }, kinds := [], alts := [], laidByText := true, laidKinds := [.data], laidTests := true, laidLooks := .later }
def EscapeUndoesCardSaid : Prop := Claim7.holds Tryd.pinned (.plain (OpenSpec.ofChange escapeUndoesSpec)) escapeUndoesCard

/-- THE TIED CARD OF 'incunablelaw02.EscapeBack'. -/
def escapeBackCard : Claim7 := { stood := { row := escapeBackRow, standIns := [], harness := (true, "8d4f196c5f95d946d8c05013904344154edd2f8e84c11c5209eb45efa1cc243a"), looks := false }, kinds := [], alts := [], laidByText := true, laidKinds := [.data], laidTests := true, laidLooks := .later }
def EscapeBackCardSaid : Prop := Claim7.holds Tryd.pinned (.plain (OpenSpec.ofChange escapeBackSpec)) escapeBackCard

/-- THE TIED CARD OF 'incunablelaw02.EscapeJoins'. -/
def escapeJoinsCard : Claim7 := { stood := { row := escapeJoinsRow, standIns := [], harness := (true, "8d4f196c5f95d946d8c05013904344154edd2f8e84c11c5209eb45efa1cc243a"), looks := false }, kinds := [], alts := [], laidByText := true, laidKinds := [.data], laidTests := true, laidLooks := .later }
def EscapeJoinsCardSaid : Prop := Claim7.holds Tryd.pinned (.plain (OpenSpec.ofChange escapeJoinsSpec)) escapeJoinsCard

/-- THE TIED CARD OF 'incunablelaw02.EscapePlain'. -/
def escapePlainCard : Claim7 := { stood := { row := escapePlainRow, standIns := [], harness := (true, "8d4f196c5f95d946d8c05013904344154edd2f8e84c11c5209eb45efa1cc243a"), looks := false }, kinds := [], alts := [], laidByText := true, laidKinds := [.data], laidTests := true, laidLooks := .later }
def EscapePlainCardSaid : Prop := Claim7.holds Tryd.pinned (.plain (OpenSpec.ofChange escapePlainSpec)) escapePlainCard

/-- THE TIED CARD OF 'incunablelaw02.EscapeLonger'. -/
def escapeLongerCard : Claim7 := { stood := { row := escapeLongerRow, standIns := [], harness := (true, "8d4f196c5f95d946d8c05013904344154edd2f8e84c11c5209eb45efa1cc243a"), looks := false }, kinds := [], alts := [], laidByText := true, laidKinds := [.data], laidTests := true, laidLooks := .later }
def EscapeLongerCardSaid : Prop := Claim7.holds Tryd.pinned (.plain (OpenSpec.ofChange escapeLongerSpec)) escapeLongerCard

/-- THE TIED CARD OF 'incunablelaw02.EscapeNumbers'. -/
def escapeNumbersCard : Claim7 := { stood := { row := escapeNumbersRow, standIns := [], harness := (true, "8d4f196c5f95d946d8c05013904344154edd2f8e84c11c5209eb45efa1cc243a"), looks := false }, kinds := [], alts := [], laidByText := true, laidKinds := [.data], laidTests := true, laidLooks := .later }
def EscapeNumbersCardSaid : Prop := Claim7.holds Tryd.pinned (.plain (OpenSpec.ofChange escapeNumbersSpec)) escapeNumbersCard

/-- THE SECOND FORM's CARD OF 'incunablelaw02.EscapeWrites'. -/
def escapeWritesUptoCard : Claim7 := { stood := { row := escapeWritesUptoRow, standIns := [], harness := (true, "8d4f196c5f95d946d8c05013904344154edd2f8e84c11c5209eb45efa1cc243a"), looks := false }, kinds := [], alts := [], laidByText := true, laidKinds := [.data], laidTests := true, laidLooks := .later }
def EscapeWritesUptoCardSaid : Prop := Claim7.holds Tryd.pinned (.plain (OpenSpec.upto escapeWritesSpec)) escapeWritesUptoCard

/-- THE SECOND FORM's CARD OF 'incunablelaw02.EscapeUndoes'. -/
def escapeUndoesUptoCard : Claim7 := { stood := { row := escapeUndoesUptoRow, standIns := [], harness := (true, "8d4f196c5f95d946d8c05013904344154edd2f8e84c11c5209eb45efa1cc243a"), looks := false }, kinds := [], alts := [], laidByText := true, laidKinds := [.data], laidTests := true, laidLooks := .later }
def EscapeUndoesUptoCardSaid : Prop := Claim7.holds Tryd.pinned (.plain (OpenSpec.upto escapeUndoesSpec)) escapeUndoesUptoCard

/-- THE SECOND FORM's CARD OF 'incunablelaw02.EscapeBack'. -/
def escapeBackUptoCard : Claim7 := { stood := { row := escapeBackUptoRow, standIns := [], harness := (true, "8d4f196c5f95d946d8c05013904344154edd2f8e84c11c5209eb45efa1cc243a"), looks := false }, kinds := [], alts := [], laidByText := true, laidKinds := [.data], laidTests := true, laidLooks := .later }
def EscapeBackUptoCardSaid : Prop := Claim7.holds Tryd.pinned (.plain (OpenSpec.upto escapeBackSpec)) escapeBackUptoCard

/-- THE SECOND FORM's CARD OF 'incunablelaw02.EscapeJoins'. -/
def escapeJoinsUptoCard : Claim7 := { stood := { row := escapeJoinsUptoRow, standIns := [], harness := (true, "8d4f196c5f95d946d8c05013904344154edd2f8e84c11c5209eb45efa1cc243a"), looks := false }, kinds := [], alts := [], laidByText := true, laidKinds := [.data], laidTests := true, laidLooks := .later }
def EscapeJoinsUptoCardSaid : Prop := Claim7.holds Tryd.pinned (.plain (OpenSpec.upto escapeJoinsSpec)) escapeJoinsUptoCard

/-- THE SECOND FORM's CARD OF 'incunablelaw02.EscapePlain'. -/
def escapePlainUptoCard : Claim7 := { stood := { row := escapePlainUptoRow, standIns := [], harness := (true, "8d4f196c5f95d946d8c05013904344154edd2f8e84c11c5209eb45efa1cc243a"), looks := false }, kinds := [], alts := [], laidByText := true, laidKinds := [.data], laidTests := true, laidLooks := .later }
def EscapePlainUptoCardSaid : Prop := Claim7.holds Tryd.pinned (.plain (OpenSpec.upto escapePlainSpec)) escapePlainUptoCard

/-- THE SECOND FORM's CARD OF 'incunablelaw02.EscapeLonger'. -/
def escapeLongerUptoCard : Claim7 := { stood := { row := escapeLongerUptoRow, standIns := [], harness := (true, "8d4f196c5f95d946d8c05013904344154edd2f8e84c11c5209eb45efa1cc243a"), looks := false }, kinds := [], alts := [], laidByText := true, laidKinds := [.data], laidTests := true, laidLooks := .later }
def EscapeLongerUptoCardSaid : Prop := Claim7.holds Tryd.pinned (.plain (OpenSpec.upto escapeLongerSpec)) escapeLongerUptoCard

/-- THE SECOND FORM's CARD OF 'incunablelaw02.EscapeNumbers'. -/
def escapeNumbersUptoCard : Claim7 := { stood := { row := escapeNumbersUptoRow, standIns := [], harness := (true, "8d4f196c5f95d946d8c05013904344154edd2f8e84c11c5209eb45efa1cc243a"), looks := false }, kinds := [], alts := [], laidByText := true, laidKinds := [.data], laidTests := true, laidLooks := .later }
def EscapeNumbersUptoCardSaid : Prop := Claim7.holds Tryd.pinned (.plain (OpenSpec.upto escapeNumbersSpec)) escapeNumbersUptoCard
end Rows
end Go.Proofs.YtpkcgahgjdghaaaDoor
