/-
  NARROWER THAN 'FOR EVERY INPUT', by the rows' own cells (each row's printed sentence says how): GlyphKinds: laid · GlyphPuts: laid · GlyphNexts: laid · GlyphCounts: laid · GlyphNames: laid · GlyphOrder: laid · GlyphSteps: laid · GlyphAhead: laid.
  DERIVED. THE GIVEN ROWS OF THIS SEAT. 8 by the template 'for every input the law returns true; each argument reads behind the call as it read before'; 0 by the template 'total and deterministic' (their statements: YthgdjdagmijkfaaDoorTotals.lean).
  GIVEN WITH THE SEED: the statements are not yours to turn. If you find one false, say at which input.
  Laid BY PROGRAM, IN A SANDBOX (cutbox-rows.mjs): the forced cells as the released guide's own fill.sh prints them over the translation f08d6ebb03a2a231… (all of the seat's roots in one cut). By AI agents, Wed Nov 11 2026. No macro, syntax, notation, axiom, sorry.
-/
import Derived.Test.YthgdjdagmijkfaaDoorChecked
import GoSem.Claim
import GoSem.ClaimJoined
import GoSem.ClaimMapViews
import Derived.JoinedTies
import Derived.KernelRfl
namespace Go.Proofs.YthgdjdagmijkfaaDoor
/- THE CELL 'sum', in the pinned program and in every row, IS THE sha256 OF THE DUMP (.gsa) THAT YthgdjdagmijkfaaDoorProg.lean LOADS. Nothing in Lean hashes anything: it is a label: what it is worth is what the hold of that sum in a sandbox is worth. -/
noncomputable def Tryd.pinned : Pinned := { name := "ythgdjdagmijkfaadoor", sum := "f08d6ebb03a2a231e4968a57838626d0c17d9813fe1577ba6a019be10ebd0e3d", checked := Tryd.checked }
namespace Rows
def none {H : Type} : Left H := { results := [], args := [] }

/- WHAT THE LISTED PACKAGE-LEVEL VARIABLES READ AS WHEN THE CALL BEGINS. Each datum BY PROGRAM (the guide's laid-datum.mjs) off the statement by which the dump's own 'gosem.cut.vars' lays the variable. In a bare row this is a premise. The card (YthgdjdagmijkfaaDoorCards.lean) ties it to the program's text. -/
def laid_incunable_glyph_stretches {H : Type} : DataW H := .agg [.agg [.lit (.int .i64 0), .lit (.int .i32 32), .lit (.int .i32 55295)], .agg [.lit (.int .i64 0), .lit (.int .i32 9), .lit (.int .i32 10)], .agg [.lit (.int .i64 0), .lit (.int .i32 13), .lit (.int .i32 13)], .agg [.lit (.int .i64 0), .lit (.int .i32 57344), .lit (.int .i32 65533)], .agg [.lit (.int .i64 0), .lit (.int .i32 65536), .lit (.int .i32 1114111)], .agg [.lit (.int .i64 1), .lit (.int .i32 97), .lit (.int .i32 122)], .agg [.lit (.int .i64 1), .lit (.int .i32 65), .lit (.int .i32 90)], .agg [.lit (.int .i64 1), .lit (.int .i32 95), .lit (.int .i32 95)], .agg [.lit (.int .i64 1), .lit (.int .i32 192), .lit (.int .i32 214)], .agg [.lit (.int .i64 1), .lit (.int .i32 216), .lit (.int .i32 246)], .agg [.lit (.int .i64 1), .lit (.int .i32 248), .lit (.int .i32 767)], .agg [.lit (.int .i64 1), .lit (.int .i32 880), .lit (.int .i32 893)], .agg [.lit (.int .i64 1), .lit (.int .i32 895), .lit (.int .i32 8191)], .agg [.lit (.int .i64 1), .lit (.int .i32 8204), .lit (.int .i32 8205)], .agg [.lit (.int .i64 1), .lit (.int .i32 8304), .lit (.int .i32 8591)], .agg [.lit (.int .i64 1), .lit (.int .i32 11264), .lit (.int .i32 12271)], .agg [.lit (.int .i64 1), .lit (.int .i32 12289), .lit (.int .i32 55295)], .agg [.lit (.int .i64 1), .lit (.int .i32 63744), .lit (.int .i32 64975)], .agg [.lit (.int .i64 1), .lit (.int .i32 65008), .lit (.int .i32 65533)], .agg [.lit (.int .i64 1), .lit (.int .i32 65536), .lit (.int .i32 983039)], .agg [.lit (.int .i64 2), .lit (.int .i32 45), .lit (.int .i32 46)], .agg [.lit (.int .i64 2), .lit (.int .i32 48), .lit (.int .i32 57)], .agg [.lit (.int .i64 2), .lit (.int .i32 183), .lit (.int .i32 183)], .agg [.lit (.int .i64 2), .lit (.int .i32 768), .lit (.int .i32 879)], .agg [.lit (.int .i64 2), .lit (.int .i32 8255), .lit (.int .i32 8256)]]

/-- 'incunablelaw01.GlyphKinds': WHATEVER THE INPUT: true; the input reads as it did. -/
def glyphKindsSpec : ChangeSpec := { name := "glyphKinds", fn := fun _ => fun
  | [d] => { results := [.lit (.bool true)], args := [d] }
  | _ => none }
def glyphKindsRow : OpenClaim := { program := "ythgdjdagmijkfaadoor", sum := "f08d6ebb03a2a231e4968a57838626d0c17d9813fe1577ba6a019be10ebd0e3d", func := "incunable/incunablelaw01.GlyphKinds", spec := "glyphKinds", named := ["incunable/glyph.stretches"], apart := false, laid := [("incunable/glyph.stretches", laid_incunable_glyph_stretches)] }
def GlyphKindsSaid : Prop := glyphKindsRow.holds Tryd.pinned (OpenSpec.ofChange glyphKindsSpec)

/-- ITS FALSE NEIGHBOUR: 'it returns false'. Refute it at one input. -/
def glyphKindsWrong : ChangeSpec := { name := "glyphKinds", fn := fun _ => fun
  | [d] => { results := [.lit (.bool false)], args := [d] }
  | _ => none }
def GlyphKindsWrongFalsely : Prop := glyphKindsRow.holds Tryd.pinned (OpenSpec.ofChange glyphKindsWrong)

/-- 'incunablelaw01.GlyphPuts': WHATEVER THE INPUT: true; the input reads as it did. -/
def glyphPutsSpec : ChangeSpec := { name := "glyphPuts", fn := fun _ => fun
  | [d1, d2] => { results := [.lit (.bool true)], args := [d1, d2] }
  | _ => none }
def glyphPutsRow : OpenClaim := { program := "ythgdjdagmijkfaadoor", sum := "f08d6ebb03a2a231e4968a57838626d0c17d9813fe1577ba6a019be10ebd0e3d", func := "incunable/incunablelaw01.GlyphPuts", spec := "glyphPuts", named := ["incunable/glyph.stretches"], apart := false, laid := [("incunable/glyph.stretches", laid_incunable_glyph_stretches)] }
def GlyphPutsSaid : Prop := glyphPutsRow.holds Tryd.pinned (OpenSpec.ofChange glyphPutsSpec)

/-- ITS FALSE NEIGHBOUR: 'it returns false'. Refute it at one input. -/
def glyphPutsWrong : ChangeSpec := { name := "glyphPuts", fn := fun _ => fun
  | [d1, d2] => { results := [.lit (.bool false)], args := [d1, d2] }
  | _ => none }
def GlyphPutsWrongFalsely : Prop := glyphPutsRow.holds Tryd.pinned (OpenSpec.ofChange glyphPutsWrong)

/-- 'incunablelaw01.GlyphNexts': WHATEVER THE INPUT: true; the input reads as it did. -/
def glyphNextsSpec : ChangeSpec := { name := "glyphNexts", fn := fun _ => fun
  | [d] => { results := [.lit (.bool true)], args := [d] }
  | _ => none }
def glyphNextsRow : OpenClaim := { program := "ythgdjdagmijkfaadoor", sum := "f08d6ebb03a2a231e4968a57838626d0c17d9813fe1577ba6a019be10ebd0e3d", func := "incunable/incunablelaw01.GlyphNexts", spec := "glyphNexts", named := ["incunable/glyph.stretches"], apart := false, laid := [("incunable/glyph.stretches", laid_incunable_glyph_stretches)] }
def GlyphNextsSaid : Prop := glyphNextsRow.holds Tryd.pinned (OpenSpec.ofChange glyphNextsSpec)

/-- ITS FALSE NEIGHBOUR: 'it returns false'. Refute it at one input. -/
def glyphNextsWrong : ChangeSpec := { name := "glyphNexts", fn := fun _ => fun
  | [d] => { results := [.lit (.bool false)], args := [d] }
  | _ => none }
def GlyphNextsWrongFalsely : Prop := glyphNextsRow.holds Tryd.pinned (OpenSpec.ofChange glyphNextsWrong)

/-- 'incunablelaw01.GlyphCounts': WHATEVER THE INPUT: true; the input reads as it did. -/
def glyphCountsSpec : ChangeSpec := { name := "glyphCounts", fn := fun _ => fun
  | [d1, d2] => { results := [.lit (.bool true)], args := [d1, d2] }
  | _ => none }
def glyphCountsRow : OpenClaim := { program := "ythgdjdagmijkfaadoor", sum := "f08d6ebb03a2a231e4968a57838626d0c17d9813fe1577ba6a019be10ebd0e3d", func := "incunable/incunablelaw01.GlyphCounts", spec := "glyphCounts", named := ["incunable/glyph.stretches"], apart := false, laid := [("incunable/glyph.stretches", laid_incunable_glyph_stretches)] }
def GlyphCountsSaid : Prop := glyphCountsRow.holds Tryd.pinned (OpenSpec.ofChange glyphCountsSpec)

/-- ITS FALSE NEIGHBOUR: 'it returns false'. Refute it at one input. -/
def glyphCountsWrong : ChangeSpec := { name := "glyphCounts", fn := fun _ => fun
  | [d1, d2] => { results := [.lit (.bool false)], args := [d1, d2] }
  | _ => none }
def GlyphCountsWrongFalsely : Prop := glyphCountsRow.holds Tryd.pinned (OpenSpec.ofChange glyphCountsWrong)

/-- 'incunablelaw01.GlyphNames': WHATEVER THE INPUT: true; the input reads as it did. -/
def glyphNamesSpec : ChangeSpec := { name := "glyphNames", fn := fun _ => fun
  | [d] => { results := [.lit (.bool true)], args := [d] }
  | _ => none }
def glyphNamesRow : OpenClaim := { program := "ythgdjdagmijkfaadoor", sum := "f08d6ebb03a2a231e4968a57838626d0c17d9813fe1577ba6a019be10ebd0e3d", func := "incunable/incunablelaw01.GlyphNames", spec := "glyphNames", named := ["incunable/glyph.stretches"], apart := false, laid := [("incunable/glyph.stretches", laid_incunable_glyph_stretches)] }
def GlyphNamesSaid : Prop := glyphNamesRow.holds Tryd.pinned (OpenSpec.ofChange glyphNamesSpec)

/-- ITS FALSE NEIGHBOUR: 'it returns false'. Refute it at one input. -/
def glyphNamesWrong : ChangeSpec := { name := "glyphNames", fn := fun _ => fun
  | [d] => { results := [.lit (.bool false)], args := [d] }
  | _ => none }
def GlyphNamesWrongFalsely : Prop := glyphNamesRow.holds Tryd.pinned (OpenSpec.ofChange glyphNamesWrong)

/-- 'incunablelaw01.GlyphOrder': WHATEVER THE INPUT: true; the input reads as it did. -/
def glyphOrderSpec : ChangeSpec := { name := "glyphOrder", fn := fun _ => fun
  | [d] => { results := [.lit (.bool true)], args := [d] }
  | _ => none }
def glyphOrderRow : OpenClaim := { program := "ythgdjdagmijkfaadoor", sum := "f08d6ebb03a2a231e4968a57838626d0c17d9813fe1577ba6a019be10ebd0e3d", func := "incunable/incunablelaw01.GlyphOrder", spec := "glyphOrder", named := ["incunable/glyph.stretches"], apart := false, laid := [("incunable/glyph.stretches", laid_incunable_glyph_stretches)] }
def GlyphOrderSaid : Prop := glyphOrderRow.holds Tryd.pinned (OpenSpec.ofChange glyphOrderSpec)

/-- ITS FALSE NEIGHBOUR: 'it returns false'. Refute it at one input. -/
def glyphOrderWrong : ChangeSpec := { name := "glyphOrder", fn := fun _ => fun
  | [d] => { results := [.lit (.bool false)], args := [d] }
  | _ => none }
def GlyphOrderWrongFalsely : Prop := glyphOrderRow.holds Tryd.pinned (OpenSpec.ofChange glyphOrderWrong)

/-- 'incunablelaw01.GlyphSteps': WHATEVER THE INPUT: true; the input reads as it did. -/
def glyphStepsSpec : ChangeSpec := { name := "glyphSteps", fn := fun _ => fun
  | [d] => { results := [.lit (.bool true)], args := [d] }
  | _ => none }
def glyphStepsRow : OpenClaim := { program := "ythgdjdagmijkfaadoor", sum := "f08d6ebb03a2a231e4968a57838626d0c17d9813fe1577ba6a019be10ebd0e3d", func := "incunable/incunablelaw01.GlyphSteps", spec := "glyphSteps", named := ["incunable/glyph.stretches"], apart := false, laid := [("incunable/glyph.stretches", laid_incunable_glyph_stretches)] }
def GlyphStepsSaid : Prop := glyphStepsRow.holds Tryd.pinned (OpenSpec.ofChange glyphStepsSpec)

/-- ITS FALSE NEIGHBOUR: 'it returns false'. Refute it at one input. -/
def glyphStepsWrong : ChangeSpec := { name := "glyphSteps", fn := fun _ => fun
  | [d] => { results := [.lit (.bool false)], args := [d] }
  | _ => none }
def GlyphStepsWrongFalsely : Prop := glyphStepsRow.holds Tryd.pinned (OpenSpec.ofChange glyphStepsWrong)

/-- 'incunablelaw01.GlyphAhead': WHATEVER THE INPUT: true; the input reads as it did. -/
def glyphAheadSpec : ChangeSpec := { name := "glyphAhead", fn := fun _ => fun
  | [d1, d2] => { results := [.lit (.bool true)], args := [d1, d2] }
  | _ => none }
def glyphAheadRow : OpenClaim := { program := "ythgdjdagmijkfaadoor", sum := "f08d6ebb03a2a231e4968a57838626d0c17d9813fe1577ba6a019be10ebd0e3d", func := "incunable/incunablelaw01.GlyphAhead", spec := "glyphAhead", named := ["incunable/glyph.stretches"], apart := false, laid := [("incunable/glyph.stretches", laid_incunable_glyph_stretches)] }
def GlyphAheadSaid : Prop := glyphAheadRow.holds Tryd.pinned (OpenSpec.ofChange glyphAheadSpec)

/-- ITS FALSE NEIGHBOUR: 'it returns false'. Refute it at one input. -/
def glyphAheadWrong : ChangeSpec := { name := "glyphAhead", fn := fun _ => fun
  | [d1, d2] => { results := [.lit (.bool false)], args := [d1, d2] }
  | _ => none }
def GlyphAheadWrongFalsely : Prop := glyphAheadRow.holds Tryd.pinned (OpenSpec.ofChange glyphAheadWrong)

/- THE SECOND FORM. 'bulk': how many values and letters a reading holds, each counted each time it is reached (what is shared counts as often as it is met; a slice's spare places count too). A statement '..UptoSaid' is the law's where the arguments, and the package variables that the reading takes, are together of bulk at most 1048576: NARROWER than '..Said'. Prove '..Said' where nothing that the law and all that it calls make is longer than what came in: it says more and counts as full. Else prove '..UptoSaid'. A law counts once. -/
mutual
def uptoBulk {H : Type} : DataW H → Nat
  | .lit (.string bytes) => bytes.length + 1
  | .lit _ => 1
  | .nil => 1
  | .ptr d => uptoBulk d + 1
  | .slice elems spare => uptoBulkAll elems + uptoBulkAll spare + 1
  | .agg parts => uptoBulkAll parts + 1
  | .iface _ d => uptoBulk d + 1
  | .map entries => uptoBulkEntries entries + 1
  | .held _ => 1
def uptoBulkAll {H : Type} : List (DataW H) → Nat
  | [] => 0
  | d :: r => uptoBulk d + uptoBulkAll r
def uptoBulkEntries {H : Type} : List (Lit × DataW H) → Nat
  | [] => 0
  | x :: r => uptoBulkEntry x + uptoBulkEntries r
def uptoBulkEntry {H : Type} : Lit × DataW H → Nat
  | (.string bytes, d) => bytes.length + uptoBulk d + 1
  | (_, d) => uptoBulk d + 1
 end
def uptoSmall : (H : Type) → List (DataW H) → Bool := fun _ ds => decide (uptoBulkAll ds ≤ 1048576)
def OpenSpec.upto (s : _root_.Go.ChangeSpec) : _root_.Go.OpenSpec := { _root_.Go.OpenSpec.ofChange s with cond := some uptoSmall }

/-- 'incunablelaw01.GlyphKinds', WHERE WHAT IT READS IS OF BULK AT MOST 1048576: true; the input reads as it did. -/
def glyphKindsUptoRow : OpenClaim := { program := "ythgdjdagmijkfaadoor", sum := "f08d6ebb03a2a231e4968a57838626d0c17d9813fe1577ba6a019be10ebd0e3d", func := "incunable/incunablelaw01.GlyphKinds", spec := "glyphKinds", named := ["incunable/glyph.stretches"], apart := false, laid := [("incunable/glyph.stretches", laid_incunable_glyph_stretches)], narrowed := true }
def GlyphKindsUptoSaid : Prop := glyphKindsUptoRow.holds Tryd.pinned (OpenSpec.upto glyphKindsSpec)

/-- 'incunablelaw01.GlyphPuts', WHERE WHAT IT READS IS OF BULK AT MOST 1048576: true; the input reads as it did. -/
def glyphPutsUptoRow : OpenClaim := { program := "ythgdjdagmijkfaadoor", sum := "f08d6ebb03a2a231e4968a57838626d0c17d9813fe1577ba6a019be10ebd0e3d", func := "incunable/incunablelaw01.GlyphPuts", spec := "glyphPuts", named := ["incunable/glyph.stretches"], apart := false, laid := [("incunable/glyph.stretches", laid_incunable_glyph_stretches)], narrowed := true }
def GlyphPutsUptoSaid : Prop := glyphPutsUptoRow.holds Tryd.pinned (OpenSpec.upto glyphPutsSpec)

/-- 'incunablelaw01.GlyphNexts', WHERE WHAT IT READS IS OF BULK AT MOST 1048576: true; the input reads as it did. -/
def glyphNextsUptoRow : OpenClaim := { program := "ythgdjdagmijkfaadoor", sum := "f08d6ebb03a2a231e4968a57838626d0c17d9813fe1577ba6a019be10ebd0e3d", func := "incunable/incunablelaw01.GlyphNexts", spec := "glyphNexts", named := ["incunable/glyph.stretches"], apart := false, laid := [("incunable/glyph.stretches", laid_incunable_glyph_stretches)], narrowed := true }
def GlyphNextsUptoSaid : Prop := glyphNextsUptoRow.holds Tryd.pinned (OpenSpec.upto glyphNextsSpec)

/-- 'incunablelaw01.GlyphCounts', WHERE WHAT IT READS IS OF BULK AT MOST 1048576: true; the input reads as it did. -/
def glyphCountsUptoRow : OpenClaim := { program := "ythgdjdagmijkfaadoor", sum := "f08d6ebb03a2a231e4968a57838626d0c17d9813fe1577ba6a019be10ebd0e3d", func := "incunable/incunablelaw01.GlyphCounts", spec := "glyphCounts", named := ["incunable/glyph.stretches"], apart := false, laid := [("incunable/glyph.stretches", laid_incunable_glyph_stretches)], narrowed := true }
def GlyphCountsUptoSaid : Prop := glyphCountsUptoRow.holds Tryd.pinned (OpenSpec.upto glyphCountsSpec)

/-- 'incunablelaw01.GlyphNames', WHERE WHAT IT READS IS OF BULK AT MOST 1048576: true; the input reads as it did. -/
def glyphNamesUptoRow : OpenClaim := { program := "ythgdjdagmijkfaadoor", sum := "f08d6ebb03a2a231e4968a57838626d0c17d9813fe1577ba6a019be10ebd0e3d", func := "incunable/incunablelaw01.GlyphNames", spec := "glyphNames", named := ["incunable/glyph.stretches"], apart := false, laid := [("incunable/glyph.stretches", laid_incunable_glyph_stretches)], narrowed := true }
def GlyphNamesUptoSaid : Prop := glyphNamesUptoRow.holds Tryd.pinned (OpenSpec.upto glyphNamesSpec)

/-- 'incunablelaw01.GlyphOrder', WHERE WHAT IT READS IS OF BULK AT MOST 1048576: true; the input reads as it did. -/
def glyphOrderUptoRow : OpenClaim := { program := "ythgdjdagmijkfaadoor", sum := "f08d6ebb03a2a231e4968a57838626d0c17d9813fe1577ba6a019be10ebd0e3d", func := "incunable/incunablelaw01.GlyphOrder", spec := "glyphOrder", named := ["incunable/glyph.stretches"], apart := false, laid := [("incunable/glyph.stretches", laid_incunable_glyph_stretches)], narrowed := true }
def GlyphOrderUptoSaid : Prop := glyphOrderUptoRow.holds Tryd.pinned (OpenSpec.upto glyphOrderSpec)

/-- 'incunablelaw01.GlyphSteps', WHERE WHAT IT READS IS OF BULK AT MOST 1048576: true; the input reads as it did. -/
def glyphStepsUptoRow : OpenClaim := { program := "ythgdjdagmijkfaadoor", sum := "f08d6ebb03a2a231e4968a57838626d0c17d9813fe1577ba6a019be10ebd0e3d", func := "incunable/incunablelaw01.GlyphSteps", spec := "glyphSteps", named := ["incunable/glyph.stretches"], apart := false, laid := [("incunable/glyph.stretches", laid_incunable_glyph_stretches)], narrowed := true }
def GlyphStepsUptoSaid : Prop := glyphStepsUptoRow.holds Tryd.pinned (OpenSpec.upto glyphStepsSpec)

/-- 'incunablelaw01.GlyphAhead', WHERE WHAT IT READS IS OF BULK AT MOST 1048576: true; the input reads as it did. -/
def glyphAheadUptoRow : OpenClaim := { program := "ythgdjdagmijkfaadoor", sum := "f08d6ebb03a2a231e4968a57838626d0c17d9813fe1577ba6a019be10ebd0e3d", func := "incunable/incunablelaw01.GlyphAhead", spec := "glyphAhead", named := ["incunable/glyph.stretches"], apart := false, laid := [("incunable/glyph.stretches", laid_incunable_glyph_stretches)], narrowed := true }
def GlyphAheadUptoSaid : Prop := glyphAheadUptoRow.holds Tryd.pinned (OpenSpec.upto glyphAheadSpec)

end Rows
end Go.Proofs.YthgdjdagmijkfaaDoor
