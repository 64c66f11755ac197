/-
  NARROWER THAN 'FOR EVERY INPUT', by the rows' own cells (each row's printed sentence says how): ScribeBack: laid · ScribeAgain: laid · GroveAll: laid · GroveAsks: laid · GroveRefused: laid · GroveTurns: laid.
  DERIVED. THE GIVEN ROWS OF THIS SEAT. 6 by the template 'for every input the law returns true; each argument reads behind the call as it read before'; 0 by the template 'total and deterministic' (their statements: YtmnegpdegfianaaGreatDoorTotals.lean).
  GIVEN WITH THE SEED: the statements are not yours to turn. If you find one false, say at which input.
  Laid BY PROGRAM, IN A SANDBOX (cutbox-rows.mjs): the forced cells as the released guide's own fill.sh prints them over the translation ffdd6c39cdc70a34… (all of the seat's roots in one cut). By AI agents, Wed Nov 11 2026. No macro, syntax, notation, axiom, sorry.
-/
import Derived.Test.YtmnegpdegfianaaGreatDoorChecked
import GoSem.Claim
import GoSem.ClaimJoined
import GoSem.ClaimMapViews
import Derived.JoinedTies
import Derived.KernelRfl
namespace Go.Proofs.YtmnegpdegfianaaGreatDoor
/- THE CELL 'sum', in the pinned program and in every row, IS THE sha256 OF THE DUMP (.gsa) THAT YtmnegpdegfianaaGreatDoorProg.lean LOADS. Nothing in Lean hashes anything: it is a label: what it is worth is what the hold of that sum in a sandbox is worth. -/
noncomputable def Tryz.pinned : Pinned := { name := "ytmnegpdegfianaagreatdoor", sum := "ffdd6c39cdc70a3417a429156914d43b14c63ea77e6a82593ee64d6dd03f44a8", checked := Tryz.checked }
namespace Rows
def none {H : Type} : Left H := { results := [], args := [] }

/- WHAT THE LISTED PACKAGE-LEVEL VARIABLES READ AS WHEN THE CALL BEGINS. Each datum BY PROGRAM (the guide's laid-datum.mjs) off the statement by which the dump's own 'gosem.cut.vars' lays the variable. In a bare row this is a premise. The card (YtmnegpdegfianaaGreatDoorCards.lean) ties it to the program's text. -/
def laid_incunable_glyph_stretches {H : Type} : DataW H := .agg [.agg [.lit (.int .i64 0), .lit (.int .i32 32), .lit (.int .i32 55295)], .agg [.lit (.int .i64 0), .lit (.int .i32 9), .lit (.int .i32 10)], .agg [.lit (.int .i64 0), .lit (.int .i32 13), .lit (.int .i32 13)], .agg [.lit (.int .i64 0), .lit (.int .i32 57344), .lit (.int .i32 65533)], .agg [.lit (.int .i64 0), .lit (.int .i32 65536), .lit (.int .i32 1114111)], .agg [.lit (.int .i64 1), .lit (.int .i32 97), .lit (.int .i32 122)], .agg [.lit (.int .i64 1), .lit (.int .i32 65), .lit (.int .i32 90)], .agg [.lit (.int .i64 1), .lit (.int .i32 95), .lit (.int .i32 95)], .agg [.lit (.int .i64 1), .lit (.int .i32 192), .lit (.int .i32 214)], .agg [.lit (.int .i64 1), .lit (.int .i32 216), .lit (.int .i32 246)], .agg [.lit (.int .i64 1), .lit (.int .i32 248), .lit (.int .i32 767)], .agg [.lit (.int .i64 1), .lit (.int .i32 880), .lit (.int .i32 893)], .agg [.lit (.int .i64 1), .lit (.int .i32 895), .lit (.int .i32 8191)], .agg [.lit (.int .i64 1), .lit (.int .i32 8204), .lit (.int .i32 8205)], .agg [.lit (.int .i64 1), .lit (.int .i32 8304), .lit (.int .i32 8591)], .agg [.lit (.int .i64 1), .lit (.int .i32 11264), .lit (.int .i32 12271)], .agg [.lit (.int .i64 1), .lit (.int .i32 12289), .lit (.int .i32 55295)], .agg [.lit (.int .i64 1), .lit (.int .i32 63744), .lit (.int .i32 64975)], .agg [.lit (.int .i64 1), .lit (.int .i32 65008), .lit (.int .i32 65533)], .agg [.lit (.int .i64 1), .lit (.int .i32 65536), .lit (.int .i32 983039)], .agg [.lit (.int .i64 2), .lit (.int .i32 45), .lit (.int .i32 46)], .agg [.lit (.int .i64 2), .lit (.int .i32 48), .lit (.int .i32 57)], .agg [.lit (.int .i64 2), .lit (.int .i32 183), .lit (.int .i32 183)], .agg [.lit (.int .i64 2), .lit (.int .i32 768), .lit (.int .i32 879)], .agg [.lit (.int .i64 2), .lit (.int .i32 8255), .lit (.int .i32 8256)]]

/-- 'incunablelaw05.ScribeBack': WHATEVER THE INPUT: true; the input reads as it did. -/
def scribeBackSpec : ChangeSpec := { name := "scribeBack", fn := fun _ => fun
  | [d] => { results := [.lit (.bool true)], args := [d] }
  | _ => none }
def scribeBackRow : OpenClaim := { program := "ytmnegpdegfianaagreatdoor", sum := "ffdd6c39cdc70a3417a429156914d43b14c63ea77e6a82593ee64d6dd03f44a8", func := "incunable/incunablelaw05.ScribeBack", spec := "scribeBack", inPlace := ["internal/abi.NoEscape", "internal/bytealg.IndexByteString", "internal/bytealg.abigen_runtime_cmpstring"], unfollowed := true, recurses := true, named := ["incunable/glyph.stretches"], apart := false, laid := [("incunable/glyph.stretches", laid_incunable_glyph_stretches)] }
def ScribeBackSaid : Prop := scribeBackRow.holds Tryz.pinned (OpenSpec.ofChange scribeBackSpec)

/-- ITS FALSE NEIGHBOUR: 'it returns false'. Refute it at one input. -/
def scribeBackWrong : ChangeSpec := { name := "scribeBack", fn := fun _ => fun
  | [d] => { results := [.lit (.bool false)], args := [d] }
  | _ => none }
def ScribeBackWrongFalsely : Prop := scribeBackRow.holds Tryz.pinned (OpenSpec.ofChange scribeBackWrong)

/-- 'incunablelaw05.ScribeAgain': WHATEVER THE INPUT: true; the input reads as it did. -/
def scribeAgainSpec : ChangeSpec := { name := "scribeAgain", fn := fun _ => fun
  | [d] => { results := [.lit (.bool true)], args := [d] }
  | _ => none }
def scribeAgainRow : OpenClaim := { program := "ytmnegpdegfianaagreatdoor", sum := "ffdd6c39cdc70a3417a429156914d43b14c63ea77e6a82593ee64d6dd03f44a8", func := "incunable/incunablelaw05.ScribeAgain", spec := "scribeAgain", inPlace := ["internal/abi.NoEscape", "internal/bytealg.IndexByteString", "internal/bytealg.abigen_runtime_cmpstring"], unfollowed := true, recurses := true, named := ["incunable/glyph.stretches"], apart := false, laid := [("incunable/glyph.stretches", laid_incunable_glyph_stretches)] }
def ScribeAgainSaid : Prop := scribeAgainRow.holds Tryz.pinned (OpenSpec.ofChange scribeAgainSpec)

/-- ITS FALSE NEIGHBOUR: 'it returns false'. Refute it at one input. -/
def scribeAgainWrong : ChangeSpec := { name := "scribeAgain", fn := fun _ => fun
  | [d] => { results := [.lit (.bool false)], args := [d] }
  | _ => none }
def ScribeAgainWrongFalsely : Prop := scribeAgainRow.holds Tryz.pinned (OpenSpec.ofChange scribeAgainWrong)

/-- 'incunablelaw06.GroveAll': WHATEVER THE INPUT: true; the input reads as it did. -/
def groveAllSpec : ChangeSpec := { name := "groveAll", fn := fun _ => fun
  | [d] => { results := [.lit (.bool true)], args := [d] }
  | _ => none }
def groveAllRow : OpenClaim := { program := "ytmnegpdegfianaagreatdoor", sum := "ffdd6c39cdc70a3417a429156914d43b14c63ea77e6a82593ee64d6dd03f44a8", func := "incunable/incunablelaw06.GroveAll", spec := "groveAll", inPlace := ["slices.overlaps[int]", "slices.overlaps[incunable/api.Attr]"], unfollowed := true, recurses := true, named := ["incunable/glyph.stretches"], apart := false, laid := [("incunable/glyph.stretches", laid_incunable_glyph_stretches)] }
def GroveAllSaid : Prop := groveAllRow.holds Tryz.pinned (OpenSpec.ofChange groveAllSpec)

/-- ITS FALSE NEIGHBOUR: 'it returns false'. Refute it at one input. -/
def groveAllWrong : ChangeSpec := { name := "groveAll", fn := fun _ => fun
  | [d] => { results := [.lit (.bool false)], args := [d] }
  | _ => none }
def GroveAllWrongFalsely : Prop := groveAllRow.holds Tryz.pinned (OpenSpec.ofChange groveAllWrong)

/-- 'incunablelaw06.GroveAsks': WHATEVER THE INPUT: true; the input reads as it did. -/
def groveAsksSpec : ChangeSpec := { name := "groveAsks", fn := fun _ => fun
  | [d1, d2, d3] => { results := [.lit (.bool true)], args := [d1, d2, d3] }
  | _ => none }
def groveAsksRow : OpenClaim := { program := "ytmnegpdegfianaagreatdoor", sum := "ffdd6c39cdc70a3417a429156914d43b14c63ea77e6a82593ee64d6dd03f44a8", func := "incunable/incunablelaw06.GroveAsks", spec := "groveAsks", inPlace := ["slices.overlaps[int]", "slices.overlaps[incunable/api.Attr]"], unfollowed := true, recurses := true, named := ["incunable/glyph.stretches"], apart := false, laid := [("incunable/glyph.stretches", laid_incunable_glyph_stretches)] }
def GroveAsksSaid : Prop := groveAsksRow.holds Tryz.pinned (OpenSpec.ofChange groveAsksSpec)

/-- ITS FALSE NEIGHBOUR: 'it returns false'. Refute it at one input. -/
def groveAsksWrong : ChangeSpec := { name := "groveAsks", fn := fun _ => fun
  | [d1, d2, d3] => { results := [.lit (.bool false)], args := [d1, d2, d3] }
  | _ => none }
def GroveAsksWrongFalsely : Prop := groveAsksRow.holds Tryz.pinned (OpenSpec.ofChange groveAsksWrong)

/-- 'incunablelaw06.GroveRefused': WHATEVER THE INPUT: true; the input reads as it did. -/
def groveRefusedSpec : ChangeSpec := { name := "groveRefused", fn := fun _ => fun
  | [d1, d2] => { results := [.lit (.bool true)], args := [d1, d2] }
  | _ => none }
def groveRefusedRow : OpenClaim := { program := "ytmnegpdegfianaagreatdoor", sum := "ffdd6c39cdc70a3417a429156914d43b14c63ea77e6a82593ee64d6dd03f44a8", func := "incunable/incunablelaw06.GroveRefused", spec := "groveRefused", inPlace := ["slices.overlaps[int]", "slices.overlaps[incunable/api.Attr]"], unfollowed := true, recurses := true, named := ["incunable/glyph.stretches"], apart := false, laid := [("incunable/glyph.stretches", laid_incunable_glyph_stretches)] }
def GroveRefusedSaid : Prop := groveRefusedRow.holds Tryz.pinned (OpenSpec.ofChange groveRefusedSpec)

/-- ITS FALSE NEIGHBOUR: 'it returns false'. Refute it at one input. -/
def groveRefusedWrong : ChangeSpec := { name := "groveRefused", fn := fun _ => fun
  | [d1, d2] => { results := [.lit (.bool false)], args := [d1, d2] }
  | _ => none }
def GroveRefusedWrongFalsely : Prop := groveRefusedRow.holds Tryz.pinned (OpenSpec.ofChange groveRefusedWrong)

/-- 'incunablelaw06.GroveTurns': WHATEVER THE INPUT: true; the input reads as it did. -/
def groveTurnsSpec : ChangeSpec := { name := "groveTurns", fn := fun _ => fun
  | [d1, d2] => { results := [.lit (.bool true)], args := [d1, d2] }
  | _ => none }
def groveTurnsRow : OpenClaim := { program := "ytmnegpdegfianaagreatdoor", sum := "ffdd6c39cdc70a3417a429156914d43b14c63ea77e6a82593ee64d6dd03f44a8", func := "incunable/incunablelaw06.GroveTurns", spec := "groveTurns", inPlace := ["slices.overlaps[int]", "slices.overlaps[incunable/api.Attr]"], unfollowed := true, recurses := true, named := ["incunable/glyph.stretches"], apart := false, laid := [("incunable/glyph.stretches", laid_incunable_glyph_stretches)] }
def GroveTurnsSaid : Prop := groveTurnsRow.holds Tryz.pinned (OpenSpec.ofChange groveTurnsSpec)

/-- ITS FALSE NEIGHBOUR: 'it returns false'. Refute it at one input. -/
def groveTurnsWrong : ChangeSpec := { name := "groveTurns", fn := fun _ => fun
  | [d1, d2] => { results := [.lit (.bool false)], args := [d1, d2] }
  | _ => none }
def GroveTurnsWrongFalsely : Prop := groveTurnsRow.holds Tryz.pinned (OpenSpec.ofChange groveTurnsWrong)

/- THE SECOND FORM. 'bulk': how many values and letters a reading holds, each counted each time it is reached (what is shared counts as often as it is met; a slice's spare places count too). A statement '..UptoSaid' is the law's where the arguments, and the package variables that the reading takes, are together of bulk at most 1048576: NARROWER than '..Said'. Prove '..Said' where nothing that the law and all that it calls make is longer than what came in: it says more and counts as full. Else prove '..UptoSaid'. A law counts once. -/
mutual
def uptoBulk {H : Type} : DataW H → Nat
  | .lit (.string bytes) => bytes.length + 1
  | .lit _ => 1
  | .nil => 1
  | .ptr d => uptoBulk d + 1
  | .slice elems spare => uptoBulkAll elems + uptoBulkAll spare + 1
  | .agg parts => uptoBulkAll parts + 1
  | .iface _ d => uptoBulk d + 1
  | .map entries => uptoBulkEntries entries + 1
  | .held _ => 1
def uptoBulkAll {H : Type} : List (DataW H) → Nat
  | [] => 0
  | d :: r => uptoBulk d + uptoBulkAll r
def uptoBulkEntries {H : Type} : List (Lit × DataW H) → Nat
  | [] => 0
  | x :: r => uptoBulkEntry x + uptoBulkEntries r
def uptoBulkEntry {H : Type} : Lit × DataW H → Nat
  | (.string bytes, d) => bytes.length + uptoBulk d + 1
  | (_, d) => uptoBulk d + 1
 end
def uptoSmall : (H : Type) → List (DataW H) → Bool := fun _ ds => decide (uptoBulkAll ds ≤ 1048576)
def OpenSpec.upto (s : _root_.Go.ChangeSpec) : _root_.Go.OpenSpec := { _root_.Go.OpenSpec.ofChange s with cond := some uptoSmall }

/-- 'incunablelaw05.ScribeBack', WHERE WHAT IT READS IS OF BULK AT MOST 1048576: true; the input reads as it did. -/
def scribeBackUptoRow : OpenClaim := { program := "ytmnegpdegfianaagreatdoor", sum := "ffdd6c39cdc70a3417a429156914d43b14c63ea77e6a82593ee64d6dd03f44a8", func := "incunable/incunablelaw05.ScribeBack", spec := "scribeBack", inPlace := ["internal/abi.NoEscape", "internal/bytealg.IndexByteString", "internal/bytealg.abigen_runtime_cmpstring"], unfollowed := true, recurses := true, named := ["incunable/glyph.stretches"], apart := false, laid := [("incunable/glyph.stretches", laid_incunable_glyph_stretches)], narrowed := true }
def ScribeBackUptoSaid : Prop := scribeBackUptoRow.holds Tryz.pinned (OpenSpec.upto scribeBackSpec)

/-- 'incunablelaw05.ScribeAgain', WHERE WHAT IT READS IS OF BULK AT MOST 1048576: true; the input reads as it did. -/
def scribeAgainUptoRow : OpenClaim := { program := "ytmnegpdegfianaagreatdoor", sum := "ffdd6c39cdc70a3417a429156914d43b14c63ea77e6a82593ee64d6dd03f44a8", func := "incunable/incunablelaw05.ScribeAgain", spec := "scribeAgain", inPlace := ["internal/abi.NoEscape", "internal/bytealg.IndexByteString", "internal/bytealg.abigen_runtime_cmpstring"], unfollowed := true, recurses := true, named := ["incunable/glyph.stretches"], apart := false, laid := [("incunable/glyph.stretches", laid_incunable_glyph_stretches)], narrowed := true }
def ScribeAgainUptoSaid : Prop := scribeAgainUptoRow.holds Tryz.pinned (OpenSpec.upto scribeAgainSpec)

/-- 'incunablelaw06.GroveAll', WHERE WHAT IT READS IS OF BULK AT MOST 1048576: true; the input reads as it did. -/
def groveAllUptoRow : OpenClaim := { program := "ytmnegpdegfianaagreatdoor", sum := "ffdd6c39cdc70a3417a429156914d43b14c63ea77e6a82593ee64d6dd03f44a8", func := "incunable/incunablelaw06.GroveAll", spec := "groveAll", inPlace := ["slices.overlaps[int]", "slices.overlaps[incunable/api.Attr]"], unfollowed := true, recurses := true, named := ["incunable/glyph.stretches"], apart := false, laid := [("incunable/glyph.stretches", laid_incunable_glyph_stretches)], narrowed := true }
def GroveAllUptoSaid : Prop := groveAllUptoRow.holds Tryz.pinned (OpenSpec.upto groveAllSpec)

/-- 'incunablelaw06.GroveAsks', WHERE WHAT IT READS IS OF BULK AT MOST 1048576: true; the input reads as it did. -/
def groveAsksUptoRow : OpenClaim := { program := "ytmnegpdegfianaagreatdoor", sum := "ffdd6c39cdc70a3417a429156914d43b14c63ea77e6a82593ee64d6dd03f44a8", func := "incunable/incunablelaw06.GroveAsks", spec := "groveAsks", inPlace := ["slices.overlaps[int]", "slices.overlaps[incunable/api.Attr]"], unfollowed := true, recurses := true, named := ["incunable/glyph.stretches"], apart := false, laid := [("incunable/glyph.stretches", laid_incunable_glyph_stretches)], narrowed := true }
def GroveAsksUptoSaid : Prop := groveAsksUptoRow.holds Tryz.pinned (OpenSpec.upto groveAsksSpec)

/-- 'incunablelaw06.GroveRefused', WHERE WHAT IT READS IS OF BULK AT MOST 1048576: true; the input reads as it did. -/
def groveRefusedUptoRow : OpenClaim := { program := "ytmnegpdegfianaagreatdoor", sum := "ffdd6c39cdc70a3417a429156914d43b14c63ea77e6a82593ee64d6dd03f44a8", func := "incunable/incunablelaw06.GroveRefused", spec := "groveRefused", inPlace := ["slices.overlaps[int]", "slices.overlaps[incunable/api.Attr]"], unfollowed := true, recurses := true, named := ["incunable/glyph.stretches"], apart := false, laid := [("incunable/glyph.stretches", laid_incunable_glyph_stretches)], narrowed := true }
def GroveRefusedUptoSaid : Prop := groveRefusedUptoRow.holds Tryz.pinned (OpenSpec.upto groveRefusedSpec)

/-- 'incunablelaw06.GroveTurns', WHERE WHAT IT READS IS OF BULK AT MOST 1048576: true; the input reads as it did. -/
def groveTurnsUptoRow : OpenClaim := { program := "ytmnegpdegfianaagreatdoor", sum := "ffdd6c39cdc70a3417a429156914d43b14c63ea77e6a82593ee64d6dd03f44a8", func := "incunable/incunablelaw06.GroveTurns", spec := "groveTurns", inPlace := ["slices.overlaps[int]", "slices.overlaps[incunable/api.Attr]"], unfollowed := true, recurses := true, named := ["incunable/glyph.stretches"], apart := false, laid := [("incunable/glyph.stretches", laid_incunable_glyph_stretches)], narrowed := true }
def GroveTurnsUptoSaid : Prop := groveTurnsUptoRow.holds Tryz.pinned (OpenSpec.upto groveTurnsSpec)

end Rows
end Go.Proofs.YtmnegpdegfianaaGreatDoor
