/-
  NARROWER THAN 'FOR EVERY INPUT', by the rows' own cells (each row's printed sentence says how): EscapeWrites: laid · EscapeUndoes: laid · EscapeBack: laid · EscapeJoins: laid · EscapePlain: laid · EscapeLonger: laid · EscapeNumbers: laid.
  DERIVED. THE GIVEN ROWS OF THIS SEAT. 7 by the template 'for every input the law returns true; each argument reads behind the call as it read before'; 0 by the template 'total and deterministic' (their statements: YtpkcgahgjdghaaaDoorTotals.lean).
  GIVEN WITH THE SEED: the statements are not yours to turn. If you find one false, say at which input.
  Laid BY PROGRAM, IN A SANDBOX (cutbox-rows.mjs): the forced cells as the released guide's own fill.sh prints them over the translation dff053218e5a8971… (all of the seat's roots in one cut). By AI agents, Wed Nov 11 2026. No macro, syntax, notation, axiom, sorry.
-/
import Derived.Test.YtpkcgahgjdghaaaDoorChecked
import GoSem.Claim
import GoSem.ClaimJoined
import GoSem.ClaimMapViews
import Derived.JoinedTies
import Derived.KernelRfl
namespace Go.Proofs.YtpkcgahgjdghaaaDoor
/- THE CELL 'sum', in the pinned program and in every row, IS THE sha256 OF THE DUMP (.gsa) THAT YtpkcgahgjdghaaaDoorProg.lean LOADS. Nothing in Lean hashes anything: it is a label: what it is worth is what the hold of that sum in a sandbox is worth. -/
noncomputable def Tryd.pinned : Pinned := { name := "ytpkcgahgjdghaaadoor", sum := "dff053218e5a8971dbf544178890d4ec1ae02274181210ef0631bbaf57c9e1bf", checked := Tryd.checked }
namespace Rows
def none {H : Type} : Left H := { results := [], args := [] }

/- WHAT THE LISTED PACKAGE-LEVEL VARIABLES READ AS WHEN THE CALL BEGINS. Each datum BY PROGRAM (the guide's laid-datum.mjs) off the statement by which the dump's own 'gosem.cut.vars' lays the variable. In a bare row this is a premise. The card (YtpkcgahgjdghaaaDoorCards.lean) ties it to the program's text. -/
def laid_incunable_glyph_stretches {H : Type} : DataW H := .agg [.agg [.lit (.int .i64 0), .lit (.int .i32 32), .lit (.int .i32 55295)], .agg [.lit (.int .i64 0), .lit (.int .i32 9), .lit (.int .i32 10)], .agg [.lit (.int .i64 0), .lit (.int .i32 13), .lit (.int .i32 13)], .agg [.lit (.int .i64 0), .lit (.int .i32 57344), .lit (.int .i32 65533)], .agg [.lit (.int .i64 0), .lit (.int .i32 65536), .lit (.int .i32 1114111)], .agg [.lit (.int .i64 1), .lit (.int .i32 97), .lit (.int .i32 122)], .agg [.lit (.int .i64 1), .lit (.int .i32 65), .lit (.int .i32 90)], .agg [.lit (.int .i64 1), .lit (.int .i32 95), .lit (.int .i32 95)], .agg [.lit (.int .i64 1), .lit (.int .i32 192), .lit (.int .i32 214)], .agg [.lit (.int .i64 1), .lit (.int .i32 216), .lit (.int .i32 246)], .agg [.lit (.int .i64 1), .lit (.int .i32 248), .lit (.int .i32 767)], .agg [.lit (.int .i64 1), .lit (.int .i32 880), .lit (.int .i32 893)], .agg [.lit (.int .i64 1), .lit (.int .i32 895), .lit (.int .i32 8191)], .agg [.lit (.int .i64 1), .lit (.int .i32 8204), .lit (.int .i32 8205)], .agg [.lit (.int .i64 1), .lit (.int .i32 8304), .lit (.int .i32 8591)], .agg [.lit (.int .i64 1), .lit (.int .i32 11264), .lit (.int .i32 12271)], .agg [.lit (.int .i64 1), .lit (.int .i32 12289), .lit (.int .i32 55295)], .agg [.lit (.int .i64 1), .lit (.int .i32 63744), .lit (.int .i32 64975)], .agg [.lit (.int .i64 1), .lit (.int .i32 65008), .lit (.int .i32 65533)], .agg [.lit (.int .i64 1), .lit (.int .i32 65536), .lit (.int .i32 983039)], .agg [.lit (.int .i64 2), .lit (.int .i32 45), .lit (.int .i32 46)], .agg [.lit (.int .i64 2), .lit (.int .i32 48), .lit (.int .i32 57)], .agg [.lit (.int .i64 2), .lit (.int .i32 183), .lit (.int .i32 183)], .agg [.lit (.int .i64 2), .lit (.int .i32 768), .lit (.int .i32 879)], .agg [.lit (.int .i64 2), .lit (.int .i32 8255), .lit (.int .i32 8256)]]

/-- 'incunablelaw02.EscapeWrites': WHATEVER THE INPUT: true; the input reads as it did. -/
def escapeWritesSpec : ChangeSpec := { name := "escapeWrites", fn := fun _ => fun
  | [d] => { results := [.lit (.bool true)], args := [d] }
  | _ => none }
def escapeWritesRow : OpenClaim := { program := "ytpkcgahgjdghaaadoor", sum := "dff053218e5a8971dbf544178890d4ec1ae02274181210ef0631bbaf57c9e1bf", func := "incunable/incunablelaw02.EscapeWrites", spec := "escapeWrites", inPlace := ["internal/abi.NoEscape"], named := ["incunable/glyph.stretches"], apart := false, laid := [("incunable/glyph.stretches", laid_incunable_glyph_stretches)] }
def EscapeWritesSaid : Prop := escapeWritesRow.holds Tryd.pinned (OpenSpec.ofChange escapeWritesSpec)

/-- ITS FALSE NEIGHBOUR: 'it returns false'. Refute it at one input. -/
def escapeWritesWrong : ChangeSpec := { name := "escapeWrites", fn := fun _ => fun
  | [d] => { results := [.lit (.bool false)], args := [d] }
  | _ => none }
def EscapeWritesWrongFalsely : Prop := escapeWritesRow.holds Tryd.pinned (OpenSpec.ofChange escapeWritesWrong)

/-- 'incunablelaw02.EscapeUndoes': WHATEVER THE INPUT: true; the input reads as it did. -/
def escapeUndoesSpec : ChangeSpec := { name := "escapeUndoes", fn := fun _ => fun
  | [d1, d2] => { results := [.lit (.bool true)], args := [d1, d2] }
  | _ => none }
def escapeUndoesRow : OpenClaim := { program := "ytpkcgahgjdghaaadoor", sum := "dff053218e5a8971dbf544178890d4ec1ae02274181210ef0631bbaf57c9e1bf", func := "incunable/incunablelaw02.EscapeUndoes", spec := "escapeUndoes", inPlace := ["internal/abi.NoEscape"], named := ["incunable/glyph.stretches"], apart := false, laid := [("incunable/glyph.stretches", laid_incunable_glyph_stretches)] }
def EscapeUndoesSaid : Prop := escapeUndoesRow.holds Tryd.pinned (OpenSpec.ofChange escapeUndoesSpec)

/-- ITS FALSE NEIGHBOUR: 'it returns false'. Refute it at one input. -/
def escapeUndoesWrong : ChangeSpec := { name := "escapeUndoes", fn := fun _ => fun
  | [d1, d2] => { results := [.lit (.bool false)], args := [d1, d2] }
  | _ => none }
def EscapeUndoesWrongFalsely : Prop := escapeUndoesRow.holds Tryd.pinned (OpenSpec.ofChange escapeUndoesWrong)

/-- 'incunablelaw02.EscapeBack': WHATEVER THE INPUT: true; the input reads as it did. -/
def escapeBackSpec : ChangeSpec := { name := "escapeBack", fn := fun _ => fun
  | [d] => { results := [.lit (.bool true)], args := [d] }
  | _ => none }
def escapeBackRow : OpenClaim := { program := "ytpkcgahgjdghaaadoor", sum := "dff053218e5a8971dbf544178890d4ec1ae02274181210ef0631bbaf57c9e1bf", func := "incunable/incunablelaw02.EscapeBack", spec := "escapeBack", inPlace := ["internal/abi.NoEscape"], named := ["incunable/glyph.stretches"], apart := false, laid := [("incunable/glyph.stretches", laid_incunable_glyph_stretches)] }
def EscapeBackSaid : Prop := escapeBackRow.holds Tryd.pinned (OpenSpec.ofChange escapeBackSpec)

/-- ITS FALSE NEIGHBOUR: 'it returns false'. Refute it at one input. -/
def escapeBackWrong : ChangeSpec := { name := "escapeBack", fn := fun _ => fun
  | [d] => { results := [.lit (.bool false)], args := [d] }
  | _ => none }
def EscapeBackWrongFalsely : Prop := escapeBackRow.holds Tryd.pinned (OpenSpec.ofChange escapeBackWrong)

/-- 'incunablelaw02.EscapeJoins': WHATEVER THE INPUT: true; the input reads as it did. -/
def escapeJoinsSpec : ChangeSpec := { name := "escapeJoins", fn := fun _ => fun
  | [d1, d2] => { results := [.lit (.bool true)], args := [d1, d2] }
  | _ => none }
def escapeJoinsRow : OpenClaim := { program := "ytpkcgahgjdghaaadoor", sum := "dff053218e5a8971dbf544178890d4ec1ae02274181210ef0631bbaf57c9e1bf", func := "incunable/incunablelaw02.EscapeJoins", spec := "escapeJoins", inPlace := ["internal/abi.NoEscape"], named := ["incunable/glyph.stretches"], apart := false, laid := [("incunable/glyph.stretches", laid_incunable_glyph_stretches)] }
def EscapeJoinsSaid : Prop := escapeJoinsRow.holds Tryd.pinned (OpenSpec.ofChange escapeJoinsSpec)

/-- ITS FALSE NEIGHBOUR: 'it returns false'. Refute it at one input. -/
def escapeJoinsWrong : ChangeSpec := { name := "escapeJoins", fn := fun _ => fun
  | [d1, d2] => { results := [.lit (.bool false)], args := [d1, d2] }
  | _ => none }
def EscapeJoinsWrongFalsely : Prop := escapeJoinsRow.holds Tryd.pinned (OpenSpec.ofChange escapeJoinsWrong)

/-- 'incunablelaw02.EscapePlain': WHATEVER THE INPUT: true; the input reads as it did. -/
def escapePlainSpec : ChangeSpec := { name := "escapePlain", fn := fun _ => fun
  | [d] => { results := [.lit (.bool true)], args := [d] }
  | _ => none }
def escapePlainRow : OpenClaim := { program := "ytpkcgahgjdghaaadoor", sum := "dff053218e5a8971dbf544178890d4ec1ae02274181210ef0631bbaf57c9e1bf", func := "incunable/incunablelaw02.EscapePlain", spec := "escapePlain", inPlace := ["internal/abi.NoEscape"], named := ["incunable/glyph.stretches"], apart := false, laid := [("incunable/glyph.stretches", laid_incunable_glyph_stretches)] }
def EscapePlainSaid : Prop := escapePlainRow.holds Tryd.pinned (OpenSpec.ofChange escapePlainSpec)

/-- ITS FALSE NEIGHBOUR: 'it returns false'. Refute it at one input. -/
def escapePlainWrong : ChangeSpec := { name := "escapePlain", fn := fun _ => fun
  | [d] => { results := [.lit (.bool false)], args := [d] }
  | _ => none }
def EscapePlainWrongFalsely : Prop := escapePlainRow.holds Tryd.pinned (OpenSpec.ofChange escapePlainWrong)

/-- 'incunablelaw02.EscapeLonger': WHATEVER THE INPUT: true; the input reads as it did. -/
def escapeLongerSpec : ChangeSpec := { name := "escapeLonger", fn := fun _ => fun
  | [d] => { results := [.lit (.bool true)], args := [d] }
  | _ => none }
def escapeLongerRow : OpenClaim := { program := "ytpkcgahgjdghaaadoor", sum := "dff053218e5a8971dbf544178890d4ec1ae02274181210ef0631bbaf57c9e1bf", func := "incunable/incunablelaw02.EscapeLonger", spec := "escapeLonger", inPlace := ["internal/abi.NoEscape"], named := ["incunable/glyph.stretches"], apart := false, laid := [("incunable/glyph.stretches", laid_incunable_glyph_stretches)] }
def EscapeLongerSaid : Prop := escapeLongerRow.holds Tryd.pinned (OpenSpec.ofChange escapeLongerSpec)

/-- ITS FALSE NEIGHBOUR: 'it returns false'. Refute it at one input. -/
def escapeLongerWrong : ChangeSpec := { name := "escapeLonger", fn := fun _ => fun
  | [d] => { results := [.lit (.bool false)], args := [d] }
  | _ => none }
def EscapeLongerWrongFalsely : Prop := escapeLongerRow.holds Tryd.pinned (OpenSpec.ofChange escapeLongerWrong)

/-- 'incunablelaw02.EscapeNumbers': WHATEVER THE INPUT: true; the input reads as it did. -/
def escapeNumbersSpec : ChangeSpec := { name := "escapeNumbers", fn := fun _ => fun
  | [d] => { results := [.lit (.bool true)], args := [d] }
  | _ => none }
def escapeNumbersRow : OpenClaim := { program := "ytpkcgahgjdghaaadoor", sum := "dff053218e5a8971dbf544178890d4ec1ae02274181210ef0631bbaf57c9e1bf", func := "incunable/incunablelaw02.EscapeNumbers", spec := "escapeNumbers", inPlace := ["internal/abi.NoEscape"], named := ["incunable/glyph.stretches"], apart := false, laid := [("incunable/glyph.stretches", laid_incunable_glyph_stretches)] }
def EscapeNumbersSaid : Prop := escapeNumbersRow.holds Tryd.pinned (OpenSpec.ofChange escapeNumbersSpec)

/-- ITS FALSE NEIGHBOUR: 'it returns false'. Refute it at one input. -/
def escapeNumbersWrong : ChangeSpec := { name := "escapeNumbers", fn := fun _ => fun
  | [d] => { results := [.lit (.bool false)], args := [d] }
  | _ => none }
def EscapeNumbersWrongFalsely : Prop := escapeNumbersRow.holds Tryd.pinned (OpenSpec.ofChange escapeNumbersWrong)

/- THE SECOND FORM. 'bulk': how many values and letters a reading holds, each counted each time it is reached (what is shared counts as often as it is met; a slice's spare places count too). A statement '..UptoSaid' is the law's where the arguments, and the package variables that the reading takes, are together of bulk at most 1048576: NARROWER than '..Said'. Prove '..Said' where nothing that the law and all that it calls make is longer than what came in: it says more and counts as full. Else prove '..UptoSaid'. A law counts once. -/
mutual
def uptoBulk {H : Type} : DataW H → Nat
  | .lit (.string bytes) => bytes.length + 1
  | .lit _ => 1
  | .nil => 1
  | .ptr d => uptoBulk d + 1
  | .slice elems spare => uptoBulkAll elems + uptoBulkAll spare + 1
  | .agg parts => uptoBulkAll parts + 1
  | .iface _ d => uptoBulk d + 1
  | .map entries => uptoBulkEntries entries + 1
  | .held _ => 1
def uptoBulkAll {H : Type} : List (DataW H) → Nat
  | [] => 0
  | d :: r => uptoBulk d + uptoBulkAll r
def uptoBulkEntries {H : Type} : List (Lit × DataW H) → Nat
  | [] => 0
  | x :: r => uptoBulkEntry x + uptoBulkEntries r
def uptoBulkEntry {H : Type} : Lit × DataW H → Nat
  | (.string bytes, d) => bytes.length + uptoBulk d + 1
  | (_, d) => uptoBulk d + 1
 end
def uptoSmall : (H : Type) → List (DataW H) → Bool := fun _ ds => decide (uptoBulkAll ds ≤ 1048576)
def OpenSpec.upto (s : _root_.Go.ChangeSpec) : _root_.Go.OpenSpec := { _root_.Go.OpenSpec.ofChange s with cond := some uptoSmall }

/-- 'incunablelaw02.EscapeWrites', WHERE WHAT IT READS IS OF BULK AT MOST 1048576: true; the input reads as it did. -/
def escapeWritesUptoRow : OpenClaim := { program := "ytpkcgahgjdghaaadoor", sum := "dff053218e5a8971dbf544178890d4ec1ae02274181210ef0631bbaf57c9e1bf", func := "incunable/incunablelaw02.EscapeWrites", spec := "escapeWrites", inPlace := ["internal/abi.NoEscape"], named := ["incunable/glyph.stretches"], apart := false, laid := [("incunable/glyph.stretches", laid_incunable_glyph_stretches)], narrowed := true }
def EscapeWritesUptoSaid : Prop := escapeWritesUptoRow.holds Tryd.pinned (OpenSpec.upto escapeWritesSpec)

/-- 'incunablelaw02.EscapeUndoes', WHERE WHAT IT READS IS OF BULK AT MOST 1048576: true; the input reads as it did. -/
def escapeUndoesUptoRow : OpenClaim := { program := "ytpkcgahgjdghaaadoor", sum := "dff053218e5a8971dbf544178890d4ec1ae02274181210ef0631bbaf57c9e1bf", func := "incunable/incunablelaw02.EscapeUndoes", spec := "escapeUndoes", inPlace := ["internal/abi.NoEscape"], named := ["incunable/glyph.stretches"], apart := false, laid := [("incunable/glyph.stretches", laid_incunable_glyph_stretches)], narrowed := true }
def EscapeUndoesUptoSaid : Prop := escapeUndoesUptoRow.holds Tryd.pinned (OpenSpec.upto escapeUndoesSpec)

/-- 'incunablelaw02.EscapeBack', WHERE WHAT IT READS IS OF BULK AT MOST 1048576: true; the input reads as it did. -/
def escapeBackUptoRow : OpenClaim := { program := "ytpkcgahgjdghaaadoor", sum := "dff053218e5a8971dbf544178890d4ec1ae02274181210ef0631bbaf57c9e1bf", func := "incunable/incunablelaw02.EscapeBack", spec := "escapeBack", inPlace := ["internal/abi.NoEscape"], named := ["incunable/glyph.stretches"], apart := false, laid := [("incunable/glyph.stretches", laid_incunable_glyph_stretches)], narrowed := true }
def EscapeBackUptoSaid : Prop := escapeBackUptoRow.holds Tryd.pinned (OpenSpec.upto escapeBackSpec)

/-- 'incunablelaw02.EscapeJoins', WHERE WHAT IT READS IS OF BULK AT MOST 1048576: true; the input reads as it did. -/
def escapeJoinsUptoRow : OpenClaim := { program := "ytpkcgahgjdghaaadoor", sum := "dff053218e5a8971dbf544178890d4ec1ae02274181210ef0631bbaf57c9e1bf", func := "incunable/incunablelaw02.EscapeJoins", spec := "escapeJoins", inPlace := ["internal/abi.NoEscape"], named := ["incunable/glyph.stretches"], apart := false, laid := [("incunable/glyph.stretches", laid_incunable_glyph_stretches)], narrowed := true }
def EscapeJoinsUptoSaid : Prop := escapeJoinsUptoRow.holds Tryd.pinned (OpenSpec.upto escapeJoinsSpec)

/-- 'incunablelaw02.EscapePlain', WHERE WHAT IT READS IS OF BULK AT MOST 1048576: true; the input reads as it did. -/
def escapePlainUptoRow : OpenClaim := { program := "ytpkcgahgjdghaaadoor", sum := "dff053218e5a8971dbf544178890d4ec1ae02274181210ef0631bbaf57c9e1bf", func := "incunable/incunablelaw02.EscapePlain", spec := "escapePlain", inPlace := ["internal/abi.NoEscape"], named := ["incunable/glyph.stretches"], apart := false, laid := [("incunable/glyph.stretches", laid_incunable_glyph_stretches)], narrowed := true }
def EscapePlainUptoSaid : Prop := escapePlainUptoRow.holds Tryd.pinned (OpenSpec.upto escapePlainSpec)

/-- 'incunablelaw02.EscapeLonger', WHERE WHAT IT READS IS OF BULK AT MOST 1048576: true; the input reads as it did. -/
def escapeLongerUptoRow : OpenClaim := { program := "ytpkcgahgjdghaaadoor", sum := "dff053218e5a8971dbf544178890d4ec1ae02274181210ef0631bbaf57c9e1bf", func := "incunable/incunablelaw02.EscapeLonger", spec := "escapeLonger", inPlace := ["internal/abi.NoEscape"], named := ["incunable/glyph.stretches"], apart := false, laid := [("incunable/glyph.stretches", laid_incunable_glyph_stretches)], narrowed := true }
def EscapeLongerUptoSaid : Prop := escapeLongerUptoRow.holds Tryd.pinned (OpenSpec.upto escapeLongerSpec)

/-- 'incunablelaw02.EscapeNumbers', WHERE WHAT IT READS IS OF BULK AT MOST 1048576: true; the input reads as it did. -/
def escapeNumbersUptoRow : OpenClaim := { program := "ytpkcgahgjdghaaadoor", sum := "dff053218e5a8971dbf544178890d4ec1ae02274181210ef0631bbaf57c9e1bf", func := "incunable/incunablelaw02.EscapeNumbers", spec := "escapeNumbers", inPlace := ["internal/abi.NoEscape"], named := ["incunable/glyph.stretches"], apart := false, laid := [("incunable/glyph.stretches", laid_incunable_glyph_stretches)], narrowed := true }
def EscapeNumbersUptoSaid : Prop := escapeNumbersUptoRow.holds Tryd.pinned (OpenSpec.upto escapeNumbersSpec)

end Rows
end Go.Proofs.YtpkcgahgjdghaaaDoor
