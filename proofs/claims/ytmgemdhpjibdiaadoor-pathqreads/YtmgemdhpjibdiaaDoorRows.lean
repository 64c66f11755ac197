/-
  NARROWER THAN 'FOR EVERY INPUT', by the rows' own cells (each row's printed sentence says how): GroveShape: laid · GroveIds: laid · GroveCounts: laid · PathqReads: laid.
  DERIVED. THE GIVEN ROWS OF THIS SEAT. 4 by the template 'for every input the law returns true; each argument reads behind the call as it read before'; 0 by the template 'total and deterministic' (their statements: YtmgemdhpjibdiaaDoorTotals.lean).
  GIVEN WITH THE SEED: the statements are not yours to turn. If you find one false, say at which input.
  Laid BY PROGRAM, IN A SANDBOX (cutbox-rows.mjs): the forced cells as the released guide's own fill.sh prints them over the translation 52cf25d12ac488b7… (all of the seat's roots in one cut). By AI agents, Wed Nov 11 2026. No macro, syntax, notation, axiom, sorry.
-/
import Derived.Test.YtmgemdhpjibdiaaDoorChecked
import GoSem.Claim
import GoSem.ClaimJoined
import GoSem.ClaimMapViews
import Derived.JoinedTies
import Derived.KernelRfl
namespace Go.Proofs.YtmgemdhpjibdiaaDoor
/- THE CELL 'sum', in the pinned program and in every row, IS THE sha256 OF THE DUMP (.gsa) THAT YtmgemdhpjibdiaaDoorProg.lean LOADS. Nothing in Lean hashes anything: it is a label: what it is worth is what the hold of that sum in a sandbox is worth. -/
noncomputable def Tryd.pinned : Pinned := { name := "ytmgemdhpjibdiaadoor", sum := "52cf25d12ac488b7876189cc430e5287d62599ff779d9bbe62357ef78700f041", checked := Tryd.checked }
namespace Rows
def none {H : Type} : Left H := { results := [], args := [] }

/- WHAT THE LISTED PACKAGE-LEVEL VARIABLES READ AS WHEN THE CALL BEGINS. Each datum BY PROGRAM (the guide's laid-datum.mjs) off the statement by which the dump's own 'gosem.cut.vars' lays the variable. In a bare row this is a premise. The card (YtmgemdhpjibdiaaDoorCards.lean) ties it to the program's text. -/
def laid_incunable_glyph_stretches {H : Type} : DataW H := .agg [.agg [.lit (.int .i64 0), .lit (.int .i32 32), .lit (.int .i32 55295)], .agg [.lit (.int .i64 0), .lit (.int .i32 9), .lit (.int .i32 10)], .agg [.lit (.int .i64 0), .lit (.int .i32 13), .lit (.int .i32 13)], .agg [.lit (.int .i64 0), .lit (.int .i32 57344), .lit (.int .i32 65533)], .agg [.lit (.int .i64 0), .lit (.int .i32 65536), .lit (.int .i32 1114111)], .agg [.lit (.int .i64 1), .lit (.int .i32 97), .lit (.int .i32 122)], .agg [.lit (.int .i64 1), .lit (.int .i32 65), .lit (.int .i32 90)], .agg [.lit (.int .i64 1), .lit (.int .i32 95), .lit (.int .i32 95)], .agg [.lit (.int .i64 1), .lit (.int .i32 192), .lit (.int .i32 214)], .agg [.lit (.int .i64 1), .lit (.int .i32 216), .lit (.int .i32 246)], .agg [.lit (.int .i64 1), .lit (.int .i32 248), .lit (.int .i32 767)], .agg [.lit (.int .i64 1), .lit (.int .i32 880), .lit (.int .i32 893)], .agg [.lit (.int .i64 1), .lit (.int .i32 895), .lit (.int .i32 8191)], .agg [.lit (.int .i64 1), .lit (.int .i32 8204), .lit (.int .i32 8205)], .agg [.lit (.int .i64 1), .lit (.int .i32 8304), .lit (.int .i32 8591)], .agg [.lit (.int .i64 1), .lit (.int .i32 11264), .lit (.int .i32 12271)], .agg [.lit (.int .i64 1), .lit (.int .i32 12289), .lit (.int .i32 55295)], .agg [.lit (.int .i64 1), .lit (.int .i32 63744), .lit (.int .i32 64975)], .agg [.lit (.int .i64 1), .lit (.int .i32 65008), .lit (.int .i32 65533)], .agg [.lit (.int .i64 1), .lit (.int .i32 65536), .lit (.int .i32 983039)], .agg [.lit (.int .i64 2), .lit (.int .i32 45), .lit (.int .i32 46)], .agg [.lit (.int .i64 2), .lit (.int .i32 48), .lit (.int .i32 57)], .agg [.lit (.int .i64 2), .lit (.int .i32 183), .lit (.int .i32 183)], .agg [.lit (.int .i64 2), .lit (.int .i32 768), .lit (.int .i32 879)], .agg [.lit (.int .i64 2), .lit (.int .i32 8255), .lit (.int .i32 8256)]]
def laid_math_bits_deBruijn32tab {H : Type} : DataW H := .agg [.lit (.int .u8 0), .lit (.int .u8 1), .lit (.int .u8 28), .lit (.int .u8 2), .lit (.int .u8 29), .lit (.int .u8 14), .lit (.int .u8 24), .lit (.int .u8 3), .lit (.int .u8 30), .lit (.int .u8 22), .lit (.int .u8 20), .lit (.int .u8 15), .lit (.int .u8 25), .lit (.int .u8 17), .lit (.int .u8 4), .lit (.int .u8 8), .lit (.int .u8 31), .lit (.int .u8 27), .lit (.int .u8 13), .lit (.int .u8 23), .lit (.int .u8 21), .lit (.int .u8 19), .lit (.int .u8 16), .lit (.int .u8 7), .lit (.int .u8 26), .lit (.int .u8 12), .lit (.int .u8 18), .lit (.int .u8 6), .lit (.int .u8 11), .lit (.int .u8 5), .lit (.int .u8 10), .lit (.int .u8 9)]
def laid_math_bits_deBruijn64tab {H : Type} : DataW H := .agg [.lit (.int .u8 0), .lit (.int .u8 1), .lit (.int .u8 56), .lit (.int .u8 2), .lit (.int .u8 57), .lit (.int .u8 49), .lit (.int .u8 28), .lit (.int .u8 3), .lit (.int .u8 61), .lit (.int .u8 58), .lit (.int .u8 42), .lit (.int .u8 50), .lit (.int .u8 38), .lit (.int .u8 29), .lit (.int .u8 17), .lit (.int .u8 4), .lit (.int .u8 62), .lit (.int .u8 47), .lit (.int .u8 59), .lit (.int .u8 36), .lit (.int .u8 45), .lit (.int .u8 43), .lit (.int .u8 51), .lit (.int .u8 22), .lit (.int .u8 53), .lit (.int .u8 39), .lit (.int .u8 33), .lit (.int .u8 30), .lit (.int .u8 24), .lit (.int .u8 18), .lit (.int .u8 12), .lit (.int .u8 5), .lit (.int .u8 63), .lit (.int .u8 55), .lit (.int .u8 48), .lit (.int .u8 27), .lit (.int .u8 60), .lit (.int .u8 41), .lit (.int .u8 37), .lit (.int .u8 16), .lit (.int .u8 46), .lit (.int .u8 35), .lit (.int .u8 44), .lit (.int .u8 21), .lit (.int .u8 52), .lit (.int .u8 32), .lit (.int .u8 23), .lit (.int .u8 11), .lit (.int .u8 54), .lit (.int .u8 26), .lit (.int .u8 40), .lit (.int .u8 15), .lit (.int .u8 34), .lit (.int .u8 20), .lit (.int .u8 31), .lit (.int .u8 10), .lit (.int .u8 25), .lit (.int .u8 14), .lit (.int .u8 19), .lit (.int .u8 9), .lit (.int .u8 13), .lit (.int .u8 8), .lit (.int .u8 7), .lit (.int .u8 6)]
def laid_internal_strconv_uint64pow10 {H : Type} : DataW H := .agg [.lit (.int .u64 1), .lit (.int .u64 10), .lit (.int .u64 100), .lit (.int .u64 1000), .lit (.int .u64 10000), .lit (.int .u64 100000), .lit (.int .u64 1000000), .lit (.int .u64 10000000), .lit (.int .u64 100000000), .lit (.int .u64 1000000000), .lit (.int .u64 10000000000), .lit (.int .u64 100000000000), .lit (.int .u64 1000000000000), .lit (.int .u64 10000000000000), .lit (.int .u64 100000000000000), .lit (.int .u64 1000000000000000), .lit (.int .u64 10000000000000000), .lit (.int .u64 100000000000000000), .lit (.int .u64 1000000000000000000), .lit (.int .u64 10000000000000000000)]
def laid_incunable_pathq_axes {H : Type} : DataW H := .agg [.lit (.string []), .lit (.string [99, 104, 105, 108, 100, 58, 58]), .lit (.string [100, 101, 115, 99, 101, 110, 100, 97, 110, 116, 58, 58]), .lit (.string [100, 101, 115, 99, 101, 110, 100, 97, 110, 116, 45, 111, 114, 45, 115, 101, 108, 102, 58, 58]), .lit (.string [112, 97, 114, 101, 110, 116, 58, 58]), .lit (.string [97, 110, 99, 101, 115, 116, 111, 114, 58, 58]), .lit (.string [102, 111, 108, 108, 111, 119, 105, 110, 103, 45, 115, 105, 98, 108, 105, 110, 103, 58, 58]), .lit (.string [112, 114, 101, 99, 101, 100, 105, 110, 103, 45, 115, 105, 98, 108, 105, 110, 103, 58, 58]), .lit (.string [115, 101, 108, 102, 58, 58])]
def laid_incunable_pathq_tests {H : Type} : DataW H := .agg [.lit (.string []), .lit (.string []), .lit (.string [42]), .lit (.string [116, 101, 120, 116, 40, 41]), .lit (.string [110, 111, 100, 101, 40, 41])]

/-- 'incunablelaw06.GroveShape': WHATEVER THE INPUT: true; the input reads as it did. -/
def groveShapeSpec : ChangeSpec := { name := "groveShape", fn := fun _ => fun
  | [d] => { results := [.lit (.bool true)], args := [d] }
  | _ => none }
def groveShapeRow : OpenClaim := { program := "ytmgemdhpjibdiaadoor", sum := "52cf25d12ac488b7876189cc430e5287d62599ff779d9bbe62357ef78700f041", func := "incunable/incunablelaw06.GroveShape", spec := "groveShape", inPlace := ["slices.overlaps[int]", "slices.overlaps[incunable/api.Attr]"], unfollowed := true, recurses := true, named := ["incunable/glyph.stretches"], apart := false, laid := [("incunable/glyph.stretches", laid_incunable_glyph_stretches)] }
def GroveShapeSaid : Prop := groveShapeRow.holds Tryd.pinned (OpenSpec.ofChange groveShapeSpec)

/-- ITS FALSE NEIGHBOUR: 'it returns false'. Refute it at one input. -/
def groveShapeWrong : ChangeSpec := { name := "groveShape", fn := fun _ => fun
  | [d] => { results := [.lit (.bool false)], args := [d] }
  | _ => none }
def GroveShapeWrongFalsely : Prop := groveShapeRow.holds Tryd.pinned (OpenSpec.ofChange groveShapeWrong)

/-- 'incunablelaw06.GroveIds': WHATEVER THE INPUT: true; the input reads as it did. -/
def groveIdsSpec : ChangeSpec := { name := "groveIds", fn := fun _ => fun
  | [d] => { results := [.lit (.bool true)], args := [d] }
  | _ => none }
def groveIdsRow : OpenClaim := { program := "ytmgemdhpjibdiaadoor", sum := "52cf25d12ac488b7876189cc430e5287d62599ff779d9bbe62357ef78700f041", func := "incunable/incunablelaw06.GroveIds", spec := "groveIds", inPlace := ["slices.overlaps[int]", "slices.overlaps[incunable/api.Attr]"], unfollowed := true, recurses := true, named := ["incunable/glyph.stretches"], apart := false, laid := [("incunable/glyph.stretches", laid_incunable_glyph_stretches)] }
def GroveIdsSaid : Prop := groveIdsRow.holds Tryd.pinned (OpenSpec.ofChange groveIdsSpec)

/-- ITS FALSE NEIGHBOUR: 'it returns false'. Refute it at one input. -/
def groveIdsWrong : ChangeSpec := { name := "groveIds", fn := fun _ => fun
  | [d] => { results := [.lit (.bool false)], args := [d] }
  | _ => none }
def GroveIdsWrongFalsely : Prop := groveIdsRow.holds Tryd.pinned (OpenSpec.ofChange groveIdsWrong)

/-- 'incunablelaw06.GroveCounts': WHATEVER THE INPUT: true; the input reads as it did. -/
def groveCountsSpec : ChangeSpec := { name := "groveCounts", fn := fun _ => fun
  | [d] => { results := [.lit (.bool true)], args := [d] }
  | _ => none }
def groveCountsRow : OpenClaim := { program := "ytmgemdhpjibdiaadoor", sum := "52cf25d12ac488b7876189cc430e5287d62599ff779d9bbe62357ef78700f041", func := "incunable/incunablelaw06.GroveCounts", spec := "groveCounts", inPlace := ["slices.overlaps[int]", "slices.overlaps[incunable/api.Attr]"], unfollowed := true, recurses := true, named := ["incunable/glyph.stretches"], apart := false, laid := [("incunable/glyph.stretches", laid_incunable_glyph_stretches)] }
def GroveCountsSaid : Prop := groveCountsRow.holds Tryd.pinned (OpenSpec.ofChange groveCountsSpec)

/-- ITS FALSE NEIGHBOUR: 'it returns false'. Refute it at one input. -/
def groveCountsWrong : ChangeSpec := { name := "groveCounts", fn := fun _ => fun
  | [d] => { results := [.lit (.bool false)], args := [d] }
  | _ => none }
def GroveCountsWrongFalsely : Prop := groveCountsRow.holds Tryd.pinned (OpenSpec.ofChange groveCountsWrong)

/-- 'incunablelaw07.PathqReads': WHATEVER THE INPUT: true; the input reads as it did. -/
def pathqReadsSpec : ChangeSpec := { name := "pathqReads", fn := fun _ => fun
  | [d] => { results := [.lit (.bool true)], args := [d] }
  | _ => none }
def pathqReadsRow : OpenClaim := { program := "ytmgemdhpjibdiaadoor", sum := "52cf25d12ac488b7876189cc430e5287d62599ff779d9bbe62357ef78700f041", func := "incunable/incunablelaw07.PathqReads", spec := "pathqReads", inPlace := ["internal/bytealg.IndexByteString", "internal/abi.NoEscape"], named := ["incunable/pathq.axes", "incunable/pathq.tests", "incunable/glyph.stretches", "internal/strconv.uint64pow10", "math/bits.deBruijn32tab", "math/bits.deBruijn64tab"], apart := false, laid := [("incunable/glyph.stretches", laid_incunable_glyph_stretches), ("math/bits.deBruijn32tab", laid_math_bits_deBruijn32tab), ("math/bits.deBruijn64tab", laid_math_bits_deBruijn64tab), ("internal/strconv.uint64pow10", laid_internal_strconv_uint64pow10), ("incunable/pathq.axes", laid_incunable_pathq_axes), ("incunable/pathq.tests", laid_incunable_pathq_tests)] }
def PathqReadsSaid : Prop := pathqReadsRow.holds Tryd.pinned (OpenSpec.ofChange pathqReadsSpec)

/-- ITS FALSE NEIGHBOUR: 'it returns false'. Refute it at one input. -/
def pathqReadsWrong : ChangeSpec := { name := "pathqReads", fn := fun _ => fun
  | [d] => { results := [.lit (.bool false)], args := [d] }
  | _ => none }
def PathqReadsWrongFalsely : Prop := pathqReadsRow.holds Tryd.pinned (OpenSpec.ofChange pathqReadsWrong)

/- THE SECOND FORM. 'bulk': how many values and letters a reading holds, each counted each time it is reached (what is shared counts as often as it is met; a slice's spare places count too). A statement '..UptoSaid' is the law's where the arguments, and the package variables that the reading takes, are together of bulk at most 1048576: NARROWER than '..Said'. Prove '..Said' where nothing that the law and all that it calls make is longer than what came in: it says more and counts as full. Else prove '..UptoSaid'. A law counts once. -/
mutual
def uptoBulk {H : Type} : DataW H → Nat
  | .lit (.string bytes) => bytes.length + 1
  | .lit _ => 1
  | .nil => 1
  | .ptr d => uptoBulk d + 1
  | .slice elems spare => uptoBulkAll elems + uptoBulkAll spare + 1
  | .agg parts => uptoBulkAll parts + 1
  | .iface _ d => uptoBulk d + 1
  | .map entries => uptoBulkEntries entries + 1
  | .held _ => 1
def uptoBulkAll {H : Type} : List (DataW H) → Nat
  | [] => 0
  | d :: r => uptoBulk d + uptoBulkAll r
def uptoBulkEntries {H : Type} : List (Lit × DataW H) → Nat
  | [] => 0
  | x :: r => uptoBulkEntry x + uptoBulkEntries r
def uptoBulkEntry {H : Type} : Lit × DataW H → Nat
  | (.string bytes, d) => bytes.length + uptoBulk d + 1
  | (_, d) => uptoBulk d + 1
 end
def uptoSmall : (H : Type) → List (DataW H) → Bool := fun _ ds => decide (uptoBulkAll ds ≤ 1048576)
def OpenSpec.upto (s : _root_.Go.ChangeSpec) : _root_.Go.OpenSpec := { _root_.Go.OpenSpec.ofChange s with cond := some uptoSmall }

/-- 'incunablelaw06.GroveShape', WHERE WHAT IT READS IS OF BULK AT MOST 1048576: true; the input reads as it did. -/
def groveShapeUptoRow : OpenClaim := { program := "ytmgemdhpjibdiaadoor", sum := "52cf25d12ac488b7876189cc430e5287d62599ff779d9bbe62357ef78700f041", func := "incunable/incunablelaw06.GroveShape", spec := "groveShape", inPlace := ["slices.overlaps[int]", "slices.overlaps[incunable/api.Attr]"], unfollowed := true, recurses := true, named := ["incunable/glyph.stretches"], apart := false, laid := [("incunable/glyph.stretches", laid_incunable_glyph_stretches)], narrowed := true }
def GroveShapeUptoSaid : Prop := groveShapeUptoRow.holds Tryd.pinned (OpenSpec.upto groveShapeSpec)

/-- 'incunablelaw06.GroveIds', WHERE WHAT IT READS IS OF BULK AT MOST 1048576: true; the input reads as it did. -/
def groveIdsUptoRow : OpenClaim := { program := "ytmgemdhpjibdiaadoor", sum := "52cf25d12ac488b7876189cc430e5287d62599ff779d9bbe62357ef78700f041", func := "incunable/incunablelaw06.GroveIds", spec := "groveIds", inPlace := ["slices.overlaps[int]", "slices.overlaps[incunable/api.Attr]"], unfollowed := true, recurses := true, named := ["incunable/glyph.stretches"], apart := false, laid := [("incunable/glyph.stretches", laid_incunable_glyph_stretches)], narrowed := true }
def GroveIdsUptoSaid : Prop := groveIdsUptoRow.holds Tryd.pinned (OpenSpec.upto groveIdsSpec)

/-- 'incunablelaw06.GroveCounts', WHERE WHAT IT READS IS OF BULK AT MOST 1048576: true; the input reads as it did. -/
def groveCountsUptoRow : OpenClaim := { program := "ytmgemdhpjibdiaadoor", sum := "52cf25d12ac488b7876189cc430e5287d62599ff779d9bbe62357ef78700f041", func := "incunable/incunablelaw06.GroveCounts", spec := "groveCounts", inPlace := ["slices.overlaps[int]", "slices.overlaps[incunable/api.Attr]"], unfollowed := true, recurses := true, named := ["incunable/glyph.stretches"], apart := false, laid := [("incunable/glyph.stretches", laid_incunable_glyph_stretches)], narrowed := true }
def GroveCountsUptoSaid : Prop := groveCountsUptoRow.holds Tryd.pinned (OpenSpec.upto groveCountsSpec)

/-- 'incunablelaw07.PathqReads', WHERE WHAT IT READS IS OF BULK AT MOST 1048576: true; the input reads as it did. -/
def pathqReadsUptoRow : OpenClaim := { program := "ytmgemdhpjibdiaadoor", sum := "52cf25d12ac488b7876189cc430e5287d62599ff779d9bbe62357ef78700f041", func := "incunable/incunablelaw07.PathqReads", spec := "pathqReads", inPlace := ["internal/bytealg.IndexByteString", "internal/abi.NoEscape"], named := ["incunable/pathq.axes", "incunable/pathq.tests", "incunable/glyph.stretches", "internal/strconv.uint64pow10", "math/bits.deBruijn32tab", "math/bits.deBruijn64tab"], apart := false, laid := [("incunable/glyph.stretches", laid_incunable_glyph_stretches), ("math/bits.deBruijn32tab", laid_math_bits_deBruijn32tab), ("math/bits.deBruijn64tab", laid_math_bits_deBruijn64tab), ("internal/strconv.uint64pow10", laid_internal_strconv_uint64pow10), ("incunable/pathq.axes", laid_incunable_pathq_axes), ("incunable/pathq.tests", laid_incunable_pathq_tests)], narrowed := true }
def PathqReadsUptoSaid : Prop := pathqReadsUptoRow.holds Tryd.pinned (OpenSpec.upto pathqReadsSpec)

end Rows
end Go.Proofs.YtmgemdhpjibdiaaDoor
