/-
  NARROWER THAN 'FOR EVERY INPUT', by the rows' own cells (each row's printed sentence says how): ScribePrints: laid · ScribeNormal: laid · ScribeOnce: laid · ScribeOwn: laid · ScribeEqual: laid · GroveShape: laid.
  DERIVED. THE GIVEN ROWS OF THIS SEAT. 6 by the template 'for every input the law returns true; each argument reads behind the call as it read before'; 0 by the template 'total and deterministic' (their statements: YtmnegpdegfianaaDoorTotals.lean).
  GIVEN WITH THE SEED: the statements are not yours to turn. If you find one false, say at which input.
  Laid BY PROGRAM, IN A SANDBOX (cutbox-rows.mjs): the forced cells as the released guide's own fill.sh prints them over the translation b7522cdadf2356d2… (all of the seat's roots in one cut). By AI agents, Wed Nov 11 2026. No macro, syntax, notation, axiom, sorry.
-/
import Derived.Test.YtmnegpdegfianaaDoorChecked
import GoSem.Claim
import GoSem.ClaimJoined
import GoSem.ClaimMapViews
import Derived.JoinedTies
import Derived.KernelRfl
namespace Go.Proofs.YtmnegpdegfianaaDoor
/- THE CELL 'sum', in the pinned program and in every row, IS THE sha256 OF THE DUMP (.gsa) THAT YtmnegpdegfianaaDoorProg.lean LOADS. Nothing in Lean hashes anything: it is a label: what it is worth is what the hold of that sum in a sandbox is worth. -/
noncomputable def Tryd.pinned : Pinned := { name := "ytmnegpdegfianaadoor", sum := "b7522cdadf2356d23f606477cf54489a2e47e46934e9d0898c116d0640a36a6c", checked := Tryd.checked }
namespace Rows
def none {H : Type} : Left H := { results := [], args := [] }

/- WHAT THE LISTED PACKAGE-LEVEL VARIABLES READ AS WHEN THE CALL BEGINS. Each datum BY PROGRAM (the guide's laid-datum.mjs) off the statement by which the dump's own 'gosem.cut.vars' lays the variable. In a bare row this is a premise. The card (YtmnegpdegfianaaDoorCards.lean) ties it to the program's text. -/
def laid_incunable_glyph_stretches {H : Type} : DataW H := .agg [.agg [.lit (.int .i64 0), .lit (.int .i32 32), .lit (.int .i32 55295)], .agg [.lit (.int .i64 0), .lit (.int .i32 9), .lit (.int .i32 10)], .agg [.lit (.int .i64 0), .lit (.int .i32 13), .lit (.int .i32 13)], .agg [.lit (.int .i64 0), .lit (.int .i32 57344), .lit (.int .i32 65533)], .agg [.lit (.int .i64 0), .lit (.int .i32 65536), .lit (.int .i32 1114111)], .agg [.lit (.int .i64 1), .lit (.int .i32 97), .lit (.int .i32 122)], .agg [.lit (.int .i64 1), .lit (.int .i32 65), .lit (.int .i32 90)], .agg [.lit (.int .i64 1), .lit (.int .i32 95), .lit (.int .i32 95)], .agg [.lit (.int .i64 1), .lit (.int .i32 192), .lit (.int .i32 214)], .agg [.lit (.int .i64 1), .lit (.int .i32 216), .lit (.int .i32 246)], .agg [.lit (.int .i64 1), .lit (.int .i32 248), .lit (.int .i32 767)], .agg [.lit (.int .i64 1), .lit (.int .i32 880), .lit (.int .i32 893)], .agg [.lit (.int .i64 1), .lit (.int .i32 895), .lit (.int .i32 8191)], .agg [.lit (.int .i64 1), .lit (.int .i32 8204), .lit (.int .i32 8205)], .agg [.lit (.int .i64 1), .lit (.int .i32 8304), .lit (.int .i32 8591)], .agg [.lit (.int .i64 1), .lit (.int .i32 11264), .lit (.int .i32 12271)], .agg [.lit (.int .i64 1), .lit (.int .i32 12289), .lit (.int .i32 55295)], .agg [.lit (.int .i64 1), .lit (.int .i32 63744), .lit (.int .i32 64975)], .agg [.lit (.int .i64 1), .lit (.int .i32 65008), .lit (.int .i32 65533)], .agg [.lit (.int .i64 1), .lit (.int .i32 65536), .lit (.int .i32 983039)], .agg [.lit (.int .i64 2), .lit (.int .i32 45), .lit (.int .i32 46)], .agg [.lit (.int .i64 2), .lit (.int .i32 48), .lit (.int .i32 57)], .agg [.lit (.int .i64 2), .lit (.int .i32 183), .lit (.int .i32 183)], .agg [.lit (.int .i64 2), .lit (.int .i32 768), .lit (.int .i32 879)], .agg [.lit (.int .i64 2), .lit (.int .i32 8255), .lit (.int .i32 8256)]]

/-- 'incunablelaw05.ScribePrints': WHATEVER THE INPUT: true; the input reads as it did. -/
def scribePrintsSpec : ChangeSpec := { name := "scribePrints", fn := fun _ => fun
  | [d] => { results := [.lit (.bool true)], args := [d] }
  | _ => none }
def scribePrintsRow : OpenClaim := { program := "ytmnegpdegfianaadoor", sum := "b7522cdadf2356d23f606477cf54489a2e47e46934e9d0898c116d0640a36a6c", func := "incunable/incunablelaw05.ScribePrints", spec := "scribePrints", inPlace := ["internal/abi.NoEscape"], unfollowed := true, recurses := true, named := ["incunable/glyph.stretches"], apart := false, laid := [("incunable/glyph.stretches", laid_incunable_glyph_stretches)] }
def ScribePrintsSaid : Prop := scribePrintsRow.holds Tryd.pinned (OpenSpec.ofChange scribePrintsSpec)

/-- ITS FALSE NEIGHBOUR: 'it returns false'. Refute it at one input. -/
def scribePrintsWrong : ChangeSpec := { name := "scribePrints", fn := fun _ => fun
  | [d] => { results := [.lit (.bool false)], args := [d] }
  | _ => none }
def ScribePrintsWrongFalsely : Prop := scribePrintsRow.holds Tryd.pinned (OpenSpec.ofChange scribePrintsWrong)

/-- 'incunablelaw05.ScribeNormal': WHATEVER THE INPUT: true; the input reads as it did. -/
def scribeNormalSpec : ChangeSpec := { name := "scribeNormal", fn := fun _ => fun
  | [d1, d2] => { results := [.lit (.bool true)], args := [d1, d2] }
  | _ => none }
def scribeNormalRow : OpenClaim := { program := "ytmnegpdegfianaadoor", sum := "b7522cdadf2356d23f606477cf54489a2e47e46934e9d0898c116d0640a36a6c", func := "incunable/incunablelaw05.ScribeNormal", spec := "scribeNormal", inPlace := ["internal/abi.NoEscape"], unfollowed := true, recurses := true, named := ["incunable/glyph.stretches"], apart := false, laid := [("incunable/glyph.stretches", laid_incunable_glyph_stretches)] }
def ScribeNormalSaid : Prop := scribeNormalRow.holds Tryd.pinned (OpenSpec.ofChange scribeNormalSpec)

/-- ITS FALSE NEIGHBOUR: 'it returns false'. Refute it at one input. -/
def scribeNormalWrong : ChangeSpec := { name := "scribeNormal", fn := fun _ => fun
  | [d1, d2] => { results := [.lit (.bool false)], args := [d1, d2] }
  | _ => none }
def ScribeNormalWrongFalsely : Prop := scribeNormalRow.holds Tryd.pinned (OpenSpec.ofChange scribeNormalWrong)

/-- 'incunablelaw05.ScribeOnce': WHATEVER THE INPUT: true; the input reads as it did. -/
def scribeOnceSpec : ChangeSpec := { name := "scribeOnce", fn := fun _ => fun
  | [d] => { results := [.lit (.bool true)], args := [d] }
  | _ => none }
def scribeOnceRow : OpenClaim := { program := "ytmnegpdegfianaadoor", sum := "b7522cdadf2356d23f606477cf54489a2e47e46934e9d0898c116d0640a36a6c", func := "incunable/incunablelaw05.ScribeOnce", spec := "scribeOnce", inPlace := ["internal/abi.NoEscape"], unfollowed := true, recurses := true, named := ["incunable/glyph.stretches"], apart := false, laid := [("incunable/glyph.stretches", laid_incunable_glyph_stretches)] }
def ScribeOnceSaid : Prop := scribeOnceRow.holds Tryd.pinned (OpenSpec.ofChange scribeOnceSpec)

/-- ITS FALSE NEIGHBOUR: 'it returns false'. Refute it at one input. -/
def scribeOnceWrong : ChangeSpec := { name := "scribeOnce", fn := fun _ => fun
  | [d] => { results := [.lit (.bool false)], args := [d] }
  | _ => none }
def ScribeOnceWrongFalsely : Prop := scribeOnceRow.holds Tryd.pinned (OpenSpec.ofChange scribeOnceWrong)

/-- 'incunablelaw05.ScribeOwn': WHATEVER THE INPUT: true; the input reads as it did. -/
def scribeOwnSpec : ChangeSpec := { name := "scribeOwn", fn := fun _ => fun
  | [d] => { results := [.lit (.bool true)], args := [d] }
  | _ => none }
def scribeOwnRow : OpenClaim := { program := "ytmnegpdegfianaadoor", sum := "b7522cdadf2356d23f606477cf54489a2e47e46934e9d0898c116d0640a36a6c", func := "incunable/incunablelaw05.ScribeOwn", spec := "scribeOwn", inPlace := ["internal/abi.NoEscape"], unfollowed := true, recurses := true, named := ["incunable/glyph.stretches"], apart := false, laid := [("incunable/glyph.stretches", laid_incunable_glyph_stretches)] }
def ScribeOwnSaid : Prop := scribeOwnRow.holds Tryd.pinned (OpenSpec.ofChange scribeOwnSpec)

/-- ITS FALSE NEIGHBOUR: 'it returns false'. Refute it at one input. -/
def scribeOwnWrong : ChangeSpec := { name := "scribeOwn", fn := fun _ => fun
  | [d] => { results := [.lit (.bool false)], args := [d] }
  | _ => none }
def ScribeOwnWrongFalsely : Prop := scribeOwnRow.holds Tryd.pinned (OpenSpec.ofChange scribeOwnWrong)

/-- 'incunablelaw05.ScribeEqual': WHATEVER THE INPUT: true; the input reads as it did. -/
def scribeEqualSpec : ChangeSpec := { name := "scribeEqual", fn := fun _ => fun
  | [d1, d2] => { results := [.lit (.bool true)], args := [d1, d2] }
  | _ => none }
def scribeEqualRow : OpenClaim := { program := "ytmnegpdegfianaadoor", sum := "b7522cdadf2356d23f606477cf54489a2e47e46934e9d0898c116d0640a36a6c", func := "incunable/incunablelaw05.ScribeEqual", spec := "scribeEqual", inPlace := ["internal/abi.NoEscape"], unfollowed := true, recurses := true, named := ["incunable/glyph.stretches"], apart := false, laid := [("incunable/glyph.stretches", laid_incunable_glyph_stretches)] }
def ScribeEqualSaid : Prop := scribeEqualRow.holds Tryd.pinned (OpenSpec.ofChange scribeEqualSpec)

/-- ITS FALSE NEIGHBOUR: 'it returns false'. Refute it at one input. -/
def scribeEqualWrong : ChangeSpec := { name := "scribeEqual", fn := fun _ => fun
  | [d1, d2] => { results := [.lit (.bool false)], args := [d1, d2] }
  | _ => none }
def ScribeEqualWrongFalsely : Prop := scribeEqualRow.holds Tryd.pinned (OpenSpec.ofChange scribeEqualWrong)

/-- 'incunablelaw06.GroveShape': WHATEVER THE INPUT: true; the input reads as it did. -/
def groveShapeSpec : ChangeSpec := { name := "groveShape", fn := fun _ => fun
  | [d] => { results := [.lit (.bool true)], args := [d] }
  | _ => none }
def groveShapeRow : OpenClaim := { program := "ytmnegpdegfianaadoor", sum := "b7522cdadf2356d23f606477cf54489a2e47e46934e9d0898c116d0640a36a6c", func := "incunable/incunablelaw06.GroveShape", spec := "groveShape", inPlace := ["slices.overlaps[int]", "slices.overlaps[incunable/api.Attr]"], unfollowed := true, recurses := true, named := ["incunable/glyph.stretches"], apart := false, laid := [("incunable/glyph.stretches", laid_incunable_glyph_stretches)] }
def GroveShapeSaid : Prop := groveShapeRow.holds Tryd.pinned (OpenSpec.ofChange groveShapeSpec)

/-- ITS FALSE NEIGHBOUR: 'it returns false'. Refute it at one input. -/
def groveShapeWrong : ChangeSpec := { name := "groveShape", fn := fun _ => fun
  | [d] => { results := [.lit (.bool false)], args := [d] }
  | _ => none }
def GroveShapeWrongFalsely : Prop := groveShapeRow.holds Tryd.pinned (OpenSpec.ofChange groveShapeWrong)

/- THE SECOND FORM. 'bulk': how many values and letters a reading holds, each counted each time it is reached (what is shared counts as often as it is met; a slice's spare places count too). A statement '..UptoSaid' is the law's where the arguments, and the package variables that the reading takes, are together of bulk at most 1048576: NARROWER than '..Said'. Prove '..Said' where nothing that the law and all that it calls make is longer than what came in: it says more and counts as full. Else prove '..UptoSaid'. A law counts once. -/
mutual
def uptoBulk {H : Type} : DataW H → Nat
  | .lit (.string bytes) => bytes.length + 1
  | .lit _ => 1
  | .nil => 1
  | .ptr d => uptoBulk d + 1
  | .slice elems spare => uptoBulkAll elems + uptoBulkAll spare + 1
  | .agg parts => uptoBulkAll parts + 1
  | .iface _ d => uptoBulk d + 1
  | .map entries => uptoBulkEntries entries + 1
  | .held _ => 1
def uptoBulkAll {H : Type} : List (DataW H) → Nat
  | [] => 0
  | d :: r => uptoBulk d + uptoBulkAll r
def uptoBulkEntries {H : Type} : List (Lit × DataW H) → Nat
  | [] => 0
  | x :: r => uptoBulkEntry x + uptoBulkEntries r
def uptoBulkEntry {H : Type} : Lit × DataW H → Nat
  | (.string bytes, d) => bytes.length + uptoBulk d + 1
  | (_, d) => uptoBulk d + 1
 end
def uptoSmall : (H : Type) → List (DataW H) → Bool := fun _ ds => decide (uptoBulkAll ds ≤ 1048576)
def OpenSpec.upto (s : _root_.Go.ChangeSpec) : _root_.Go.OpenSpec := { _root_.Go.OpenSpec.ofChange s with cond := some uptoSmall }

/-- 'incunablelaw05.ScribePrints', WHERE WHAT IT READS IS OF BULK AT MOST 1048576: true; the input reads as it did. -/
def scribePrintsUptoRow : OpenClaim := { program := "ytmnegpdegfianaadoor", sum := "b7522cdadf2356d23f606477cf54489a2e47e46934e9d0898c116d0640a36a6c", func := "incunable/incunablelaw05.ScribePrints", spec := "scribePrints", inPlace := ["internal/abi.NoEscape"], unfollowed := true, recurses := true, named := ["incunable/glyph.stretches"], apart := false, laid := [("incunable/glyph.stretches", laid_incunable_glyph_stretches)], narrowed := true }
def ScribePrintsUptoSaid : Prop := scribePrintsUptoRow.holds Tryd.pinned (OpenSpec.upto scribePrintsSpec)

/-- 'incunablelaw05.ScribeNormal', WHERE WHAT IT READS IS OF BULK AT MOST 1048576: true; the input reads as it did. -/
def scribeNormalUptoRow : OpenClaim := { program := "ytmnegpdegfianaadoor", sum := "b7522cdadf2356d23f606477cf54489a2e47e46934e9d0898c116d0640a36a6c", func := "incunable/incunablelaw05.ScribeNormal", spec := "scribeNormal", inPlace := ["internal/abi.NoEscape"], unfollowed := true, recurses := true, named := ["incunable/glyph.stretches"], apart := false, laid := [("incunable/glyph.stretches", laid_incunable_glyph_stretches)], narrowed := true }
def ScribeNormalUptoSaid : Prop := scribeNormalUptoRow.holds Tryd.pinned (OpenSpec.upto scribeNormalSpec)

/-- 'incunablelaw05.ScribeOnce', WHERE WHAT IT READS IS OF BULK AT MOST 1048576: true; the input reads as it did. -/
def scribeOnceUptoRow : OpenClaim := { program := "ytmnegpdegfianaadoor", sum := "b7522cdadf2356d23f606477cf54489a2e47e46934e9d0898c116d0640a36a6c", func := "incunable/incunablelaw05.ScribeOnce", spec := "scribeOnce", inPlace := ["internal/abi.NoEscape"], unfollowed := true, recurses := true, named := ["incunable/glyph.stretches"], apart := false, laid := [("incunable/glyph.stretches", laid_incunable_glyph_stretches)], narrowed := true }
def ScribeOnceUptoSaid : Prop := scribeOnceUptoRow.holds Tryd.pinned (OpenSpec.upto scribeOnceSpec)

/-- 'incunablelaw05.ScribeOwn', WHERE WHAT IT READS IS OF BULK AT MOST 1048576: true; the input reads as it did. -/
def scribeOwnUptoRow : OpenClaim := { program := "ytmnegpdegfianaadoor", sum := "b7522cdadf2356d23f606477cf54489a2e47e46934e9d0898c116d0640a36a6c", func := "incunable/incunablelaw05.ScribeOwn", spec := "scribeOwn", inPlace := ["internal/abi.NoEscape"], unfollowed := true, recurses := true, named := ["incunable/glyph.stretches"], apart := false, laid := [("incunable/glyph.stretches", laid_incunable_glyph_stretches)], narrowed := true }
def ScribeOwnUptoSaid : Prop := scribeOwnUptoRow.holds Tryd.pinned (OpenSpec.upto scribeOwnSpec)

/-- 'incunablelaw05.ScribeEqual', WHERE WHAT IT READS IS OF BULK AT MOST 1048576: true; the input reads as it did. -/
def scribeEqualUptoRow : OpenClaim := { program := "ytmnegpdegfianaadoor", sum := "b7522cdadf2356d23f606477cf54489a2e47e46934e9d0898c116d0640a36a6c", func := "incunable/incunablelaw05.ScribeEqual", spec := "scribeEqual", inPlace := ["internal/abi.NoEscape"], unfollowed := true, recurses := true, named := ["incunable/glyph.stretches"], apart := false, laid := [("incunable/glyph.stretches", laid_incunable_glyph_stretches)], narrowed := true }
def ScribeEqualUptoSaid : Prop := scribeEqualUptoRow.holds Tryd.pinned (OpenSpec.upto scribeEqualSpec)

/-- 'incunablelaw06.GroveShape', WHERE WHAT IT READS IS OF BULK AT MOST 1048576: true; the input reads as it did. -/
def groveShapeUptoRow : OpenClaim := { program := "ytmnegpdegfianaadoor", sum := "b7522cdadf2356d23f606477cf54489a2e47e46934e9d0898c116d0640a36a6c", func := "incunable/incunablelaw06.GroveShape", spec := "groveShape", inPlace := ["slices.overlaps[int]", "slices.overlaps[incunable/api.Attr]"], unfollowed := true, recurses := true, named := ["incunable/glyph.stretches"], apart := false, laid := [("incunable/glyph.stretches", laid_incunable_glyph_stretches)], narrowed := true }
def GroveShapeUptoSaid : Prop := groveShapeUptoRow.holds Tryd.pinned (OpenSpec.upto groveShapeSpec)

end Rows
end Go.Proofs.YtmnegpdegfianaaDoor
