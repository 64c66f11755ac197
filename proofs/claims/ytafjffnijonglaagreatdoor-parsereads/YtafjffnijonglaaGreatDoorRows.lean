/-
  NARROWER THAN 'FOR EVERY INPUT', by the rows' own cells (each row's printed sentence says how): ParseReads: laid · ParseChecks: laid.
  DERIVED. THE GIVEN ROWS OF THIS SEAT. 2 by the template 'for every input the law returns true; each argument reads behind the call as it read before'; 0 by the template 'total and deterministic' (their statements: YtafjffnijonglaaGreatDoorTotals.lean).
  GIVEN WITH THE SEED: the statements are not yours to turn. If you find one false, say at which input.
  Laid BY PROGRAM, IN A SANDBOX (cutbox-rows.mjs): the forced cells as the released guide's own fill.sh prints them over the translation c14ce679ce495e65… (all of the seat's roots in one cut). By AI agents, Wed Nov 11 2026. No macro, syntax, notation, axiom, sorry.
-/
import Derived.Test.YtafjffnijonglaaGreatDoorChecked
import GoSem.Claim
import GoSem.ClaimJoined
import GoSem.ClaimMapViews
import Derived.JoinedTies
import Derived.KernelRfl
namespace Go.Proofs.YtafjffnijonglaaGreatDoor
/- THE CELL 'sum', in the pinned program and in every row, IS THE sha256 OF THE DUMP (.gsa) THAT YtafjffnijonglaaGreatDoorProg.lean LOADS. Nothing in Lean hashes anything: it is a label: what it is worth is what the hold of that sum in a sandbox is worth. -/
noncomputable def Tryz.pinned : Pinned := { name := "ytafjffnijonglaagreatdoor", sum := "c14ce679ce495e658a5cd588d8ccbc1074c89b64d7aa4d15faf3ee31a756878e", checked := Tryz.checked }
namespace Rows
def none {H : Type} : Left H := { results := [], args := [] }

/- WHAT THE LISTED PACKAGE-LEVEL VARIABLES READ AS WHEN THE CALL BEGINS. Each datum BY PROGRAM (the guide's laid-datum.mjs) off the statement by which the dump's own 'gosem.cut.vars' lays the variable. In a bare row this is a premise. The card (YtafjffnijonglaaGreatDoorCards.lean) ties it to the program's text. -/
def laid_incunable_glyph_stretches {H : Type} : DataW H := .agg [.agg [.lit (.int .i64 0), .lit (.int .i32 32), .lit (.int .i32 55295)], .agg [.lit (.int .i64 0), .lit (.int .i32 9), .lit (.int .i32 10)], .agg [.lit (.int .i64 0), .lit (.int .i32 13), .lit (.int .i32 13)], .agg [.lit (.int .i64 0), .lit (.int .i32 57344), .lit (.int .i32 65533)], .agg [.lit (.int .i64 0), .lit (.int .i32 65536), .lit (.int .i32 1114111)], .agg [.lit (.int .i64 1), .lit (.int .i32 97), .lit (.int .i32 122)], .agg [.lit (.int .i64 1), .lit (.int .i32 65), .lit (.int .i32 90)], .agg [.lit (.int .i64 1), .lit (.int .i32 95), .lit (.int .i32 95)], .agg [.lit (.int .i64 1), .lit (.int .i32 192), .lit (.int .i32 214)], .agg [.lit (.int .i64 1), .lit (.int .i32 216), .lit (.int .i32 246)], .agg [.lit (.int .i64 1), .lit (.int .i32 248), .lit (.int .i32 767)], .agg [.lit (.int .i64 1), .lit (.int .i32 880), .lit (.int .i32 893)], .agg [.lit (.int .i64 1), .lit (.int .i32 895), .lit (.int .i32 8191)], .agg [.lit (.int .i64 1), .lit (.int .i32 8204), .lit (.int .i32 8205)], .agg [.lit (.int .i64 1), .lit (.int .i32 8304), .lit (.int .i32 8591)], .agg [.lit (.int .i64 1), .lit (.int .i32 11264), .lit (.int .i32 12271)], .agg [.lit (.int .i64 1), .lit (.int .i32 12289), .lit (.int .i32 55295)], .agg [.lit (.int .i64 1), .lit (.int .i32 63744), .lit (.int .i32 64975)], .agg [.lit (.int .i64 1), .lit (.int .i32 65008), .lit (.int .i32 65533)], .agg [.lit (.int .i64 1), .lit (.int .i32 65536), .lit (.int .i32 983039)], .agg [.lit (.int .i64 2), .lit (.int .i32 45), .lit (.int .i32 46)], .agg [.lit (.int .i64 2), .lit (.int .i32 48), .lit (.int .i32 57)], .agg [.lit (.int .i64 2), .lit (.int .i32 183), .lit (.int .i32 183)], .agg [.lit (.int .i64 2), .lit (.int .i32 768), .lit (.int .i32 879)], .agg [.lit (.int .i64 2), .lit (.int .i32 8255), .lit (.int .i32 8256)]]

/-- 'incunablelaw04.ParseReads': WHATEVER THE INPUT: true; the input reads as it did. -/
def parseReadsSpec : ChangeSpec := { name := "parseReads", fn := fun _ => fun
  | [d] => { results := [.lit (.bool true)], args := [d] }
  | _ => none }
def parseReadsRow : OpenClaim := { program := "ytafjffnijonglaagreatdoor", sum := "c14ce679ce495e658a5cd588d8ccbc1074c89b64d7aa4d15faf3ee31a756878e", func := "incunable/incunablelaw04.ParseReads", spec := "parseReads", inPlace := ["internal/bytealg.IndexByteString", "internal/abi.NoEscape", "internal/bytealg.abigen_runtime_cmpstring"], unfollowed := true, recurses := true, named := ["incunable/glyph.stretches"], apart := false, laid := [("incunable/glyph.stretches", laid_incunable_glyph_stretches)] }
def ParseReadsSaid : Prop := parseReadsRow.holds Tryz.pinned (OpenSpec.ofChange parseReadsSpec)

/-- ITS FALSE NEIGHBOUR: 'it returns false'. Refute it at one input. -/
def parseReadsWrong : ChangeSpec := { name := "parseReads", fn := fun _ => fun
  | [d] => { results := [.lit (.bool false)], args := [d] }
  | _ => none }
def ParseReadsWrongFalsely : Prop := parseReadsRow.holds Tryz.pinned (OpenSpec.ofChange parseReadsWrong)

/-- 'incunablelaw04.ParseChecks': WHATEVER THE INPUT: true; the input reads as it did. -/
def parseChecksSpec : ChangeSpec := { name := "parseChecks", fn := fun _ => fun
  | [d] => { results := [.lit (.bool true)], args := [d] }
  | _ => none }
def parseChecksRow : OpenClaim := { program := "ytafjffnijonglaagreatdoor", sum := "c14ce679ce495e658a5cd588d8ccbc1074c89b64d7aa4d15faf3ee31a756878e", func := "incunable/incunablelaw04.ParseChecks", spec := "parseChecks", inPlace := ["internal/bytealg.IndexByteString", "internal/abi.NoEscape", "internal/bytealg.abigen_runtime_cmpstring"], unfollowed := true, recurses := true, named := ["incunable/glyph.stretches"], apart := false, laid := [("incunable/glyph.stretches", laid_incunable_glyph_stretches)] }
def ParseChecksSaid : Prop := parseChecksRow.holds Tryz.pinned (OpenSpec.ofChange parseChecksSpec)

/-- ITS FALSE NEIGHBOUR: 'it returns false'. Refute it at one input. -/
def parseChecksWrong : ChangeSpec := { name := "parseChecks", fn := fun _ => fun
  | [d] => { results := [.lit (.bool false)], args := [d] }
  | _ => none }
def ParseChecksWrongFalsely : Prop := parseChecksRow.holds Tryz.pinned (OpenSpec.ofChange parseChecksWrong)

/- THE SECOND FORM. 'bulk': how many values and letters a reading holds, each counted each time it is reached (what is shared counts as often as it is met; a slice's spare places count too). A statement '..UptoSaid' is the law's where the arguments, and the package variables that the reading takes, are together of bulk at most 1048576: NARROWER than '..Said'. Prove '..Said' where nothing that the law and all that it calls make is longer than what came in: it says more and counts as full. Else prove '..UptoSaid'. A law counts once. -/
mutual
def uptoBulk {H : Type} : DataW H → Nat
  | .lit (.string bytes) => bytes.length + 1
  | .lit _ => 1
  | .nil => 1
  | .ptr d => uptoBulk d + 1
  | .slice elems spare => uptoBulkAll elems + uptoBulkAll spare + 1
  | .agg parts => uptoBulkAll parts + 1
  | .iface _ d => uptoBulk d + 1
  | .map entries => uptoBulkEntries entries + 1
  | .held _ => 1
def uptoBulkAll {H : Type} : List (DataW H) → Nat
  | [] => 0
  | d :: r => uptoBulk d + uptoBulkAll r
def uptoBulkEntries {H : Type} : List (Lit × DataW H) → Nat
  | [] => 0
  | x :: r => uptoBulkEntry x + uptoBulkEntries r
def uptoBulkEntry {H : Type} : Lit × DataW H → Nat
  | (.string bytes, d) => bytes.length + uptoBulk d + 1
  | (_, d) => uptoBulk d + 1
 end
def uptoSmall : (H : Type) → List (DataW H) → Bool := fun _ ds => decide (uptoBulkAll ds ≤ 1048576)
def OpenSpec.upto (s : _root_.Go.ChangeSpec) : _root_.Go.OpenSpec := { _root_.Go.OpenSpec.ofChange s with cond := some uptoSmall }

/-- 'incunablelaw04.ParseReads', WHERE WHAT IT READS IS OF BULK AT MOST 1048576: true; the input reads as it did. -/
def parseReadsUptoRow : OpenClaim := { program := "ytafjffnijonglaagreatdoor", sum := "c14ce679ce495e658a5cd588d8ccbc1074c89b64d7aa4d15faf3ee31a756878e", func := "incunable/incunablelaw04.ParseReads", spec := "parseReads", inPlace := ["internal/bytealg.IndexByteString", "internal/abi.NoEscape", "internal/bytealg.abigen_runtime_cmpstring"], unfollowed := true, recurses := true, named := ["incunable/glyph.stretches"], apart := false, laid := [("incunable/glyph.stretches", laid_incunable_glyph_stretches)], narrowed := true }
def ParseReadsUptoSaid : Prop := parseReadsUptoRow.holds Tryz.pinned (OpenSpec.upto parseReadsSpec)

/-- 'incunablelaw04.ParseChecks', WHERE WHAT IT READS IS OF BULK AT MOST 1048576: true; the input reads as it did. -/
def parseChecksUptoRow : OpenClaim := { program := "ytafjffnijonglaagreatdoor", sum := "c14ce679ce495e658a5cd588d8ccbc1074c89b64d7aa4d15faf3ee31a756878e", func := "incunable/incunablelaw04.ParseChecks", spec := "parseChecks", inPlace := ["internal/bytealg.IndexByteString", "internal/abi.NoEscape", "internal/bytealg.abigen_runtime_cmpstring"], unfollowed := true, recurses := true, named := ["incunable/glyph.stretches"], apart := false, laid := [("incunable/glyph.stretches", laid_incunable_glyph_stretches)], narrowed := true }
def ParseChecksUptoSaid : Prop := parseChecksUptoRow.holds Tryz.pinned (OpenSpec.upto parseChecksSpec)

end Rows
end Go.Proofs.YtafjffnijonglaaGreatDoor
