/-
  NARROWER THAN 'FOR EVERY INPUT', by the rows' own cells (each row's printed sentence says how): PathqReads: laid · PathqRight: laid · PathqBack: laid · PathqAgain: laid · PathqJoins: laid · PathqPlaces: laid · PathqShort: laid.
  DERIVED. THE GIVEN ROWS OF THIS SEAT. 7 by the template 'for every input the law returns true; each argument reads behind the call as it read before'; 0 by the template 'total and deterministic' (their statements: YtncgkglebpobpaaDoorTotals.lean).
  GIVEN WITH THE SEED: the statements are not yours to turn. If you find one false, say at which input.
  Laid BY PROGRAM, IN A SANDBOX (cutbox-rows.mjs): the forced cells as the released guide's own fill.sh prints them over the translation e6c75ae194479dfb… (all of the seat's roots in one cut). By AI agents, Wed Nov 11 2026. No macro, syntax, notation, axiom, sorry.
-/
import Derived.Test.YtncgkglebpobpaaDoorChecked
import GoSem.Claim
import GoSem.ClaimJoined
import GoSem.ClaimMapViews
import Derived.JoinedTies
import Derived.KernelRfl
namespace Go.Proofs.YtncgkglebpobpaaDoor
/- THE CELL 'sum', in the pinned program and in every row, IS THE sha256 OF THE DUMP (.gsa) THAT YtncgkglebpobpaaDoorProg.lean LOADS. Nothing in Lean hashes anything: it is a label: what it is worth is what the hold of that sum in a sandbox is worth. -/
noncomputable def Tryd.pinned : Pinned := { name := "ytncgkglebpobpaadoor", sum := "e6c75ae194479dfb351df0f6b1975daa1185312b93a54ffe9767a655fef1e334", checked := Tryd.checked }
namespace Rows
def none {H : Type} : Left H := { results := [], args := [] }

/- WHAT THE LISTED PACKAGE-LEVEL VARIABLES READ AS WHEN THE CALL BEGINS. Each datum BY PROGRAM (the guide's laid-datum.mjs) off the statement by which the dump's own 'gosem.cut.vars' lays the variable. In a bare row this is a premise. The card (YtncgkglebpobpaaDoorCards.lean) ties it to the program's text. -/
def laid_incunable_glyph_stretches {H : Type} : DataW H := .agg [.agg [.lit (.int .i64 0), .lit (.int .i32 32), .lit (.int .i32 55295)], .agg [.lit (.int .i64 0), .lit (.int .i32 9), .lit (.int .i32 10)], .agg [.lit (.int .i64 0), .lit (.int .i32 13), .lit (.int .i32 13)], .agg [.lit (.int .i64 0), .lit (.int .i32 57344), .lit (.int .i32 65533)], .agg [.lit (.int .i64 0), .lit (.int .i32 65536), .lit (.int .i32 1114111)], .agg [.lit (.int .i64 1), .lit (.int .i32 97), .lit (.int .i32 122)], .agg [.lit (.int .i64 1), .lit (.int .i32 65), .lit (.int .i32 90)], .agg [.lit (.int .i64 1), .lit (.int .i32 95), .lit (.int .i32 95)], .agg [.lit (.int .i64 1), .lit (.int .i32 192), .lit (.int .i32 214)], .agg [.lit (.int .i64 1), .lit (.int .i32 216), .lit (.int .i32 246)], .agg [.lit (.int .i64 1), .lit (.int .i32 248), .lit (.int .i32 767)], .agg [.lit (.int .i64 1), .lit (.int .i32 880), .lit (.int .i32 893)], .agg [.lit (.int .i64 1), .lit (.int .i32 895), .lit (.int .i32 8191)], .agg [.lit (.int .i64 1), .lit (.int .i32 8204), .lit (.int .i32 8205)], .agg [.lit (.int .i64 1), .lit (.int .i32 8304), .lit (.int .i32 8591)], .agg [.lit (.int .i64 1), .lit (.int .i32 11264), .lit (.int .i32 12271)], .agg [.lit (.int .i64 1), .lit (.int .i32 12289), .lit (.int .i32 55295)], .agg [.lit (.int .i64 1), .lit (.int .i32 63744), .lit (.int .i32 64975)], .agg [.lit (.int .i64 1), .lit (.int .i32 65008), .lit (.int .i32 65533)], .agg [.lit (.int .i64 1), .lit (.int .i32 65536), .lit (.int .i32 983039)], .agg [.lit (.int .i64 2), .lit (.int .i32 45), .lit (.int .i32 46)], .agg [.lit (.int .i64 2), .lit (.int .i32 48), .lit (.int .i32 57)], .agg [.lit (.int .i64 2), .lit (.int .i32 183), .lit (.int .i32 183)], .agg [.lit (.int .i64 2), .lit (.int .i32 768), .lit (.int .i32 879)], .agg [.lit (.int .i64 2), .lit (.int .i32 8255), .lit (.int .i32 8256)]]
def laid_math_bits_deBruijn32tab {H : Type} : DataW H := .agg [.lit (.int .u8 0), .lit (.int .u8 1), .lit (.int .u8 28), .lit (.int .u8 2), .lit (.int .u8 29), .lit (.int .u8 14), .lit (.int .u8 24), .lit (.int .u8 3), .lit (.int .u8 30), .lit (.int .u8 22), .lit (.int .u8 20), .lit (.int .u8 15), .lit (.int .u8 25), .lit (.int .u8 17), .lit (.int .u8 4), .lit (.int .u8 8), .lit (.int .u8 31), .lit (.int .u8 27), .lit (.int .u8 13), .lit (.int .u8 23), .lit (.int .u8 21), .lit (.int .u8 19), .lit (.int .u8 16), .lit (.int .u8 7), .lit (.int .u8 26), .lit (.int .u8 12), .lit (.int .u8 18), .lit (.int .u8 6), .lit (.int .u8 11), .lit (.int .u8 5), .lit (.int .u8 10), .lit (.int .u8 9)]
def laid_math_bits_deBruijn64tab {H : Type} : DataW H := .agg [.lit (.int .u8 0), .lit (.int .u8 1), .lit (.int .u8 56), .lit (.int .u8 2), .lit (.int .u8 57), .lit (.int .u8 49), .lit (.int .u8 28), .lit (.int .u8 3), .lit (.int .u8 61), .lit (.int .u8 58), .lit (.int .u8 42), .lit (.int .u8 50), .lit (.int .u8 38), .lit (.int .u8 29), .lit (.int .u8 17), .lit (.int .u8 4), .lit (.int .u8 62), .lit (.int .u8 47), .lit (.int .u8 59), .lit (.int .u8 36), .lit (.int .u8 45), .lit (.int .u8 43), .lit (.int .u8 51), .lit (.int .u8 22), .lit (.int .u8 53), .lit (.int .u8 39), .lit (.int .u8 33), .lit (.int .u8 30), .lit (.int .u8 24), .lit (.int .u8 18), .lit (.int .u8 12), .lit (.int .u8 5), .lit (.int .u8 63), .lit (.int .u8 55), .lit (.int .u8 48), .lit (.int .u8 27), .lit (.int .u8 60), .lit (.int .u8 41), .lit (.int .u8 37), .lit (.int .u8 16), .lit (.int .u8 46), .lit (.int .u8 35), .lit (.int .u8 44), .lit (.int .u8 21), .lit (.int .u8 52), .lit (.int .u8 32), .lit (.int .u8 23), .lit (.int .u8 11), .lit (.int .u8 54), .lit (.int .u8 26), .lit (.int .u8 40), .lit (.int .u8 15), .lit (.int .u8 34), .lit (.int .u8 20), .lit (.int .u8 31), .lit (.int .u8 10), .lit (.int .u8 25), .lit (.int .u8 14), .lit (.int .u8 19), .lit (.int .u8 9), .lit (.int .u8 13), .lit (.int .u8 8), .lit (.int .u8 7), .lit (.int .u8 6)]
def laid_internal_strconv_uint64pow10 {H : Type} : DataW H := .agg [.lit (.int .u64 1), .lit (.int .u64 10), .lit (.int .u64 100), .lit (.int .u64 1000), .lit (.int .u64 10000), .lit (.int .u64 100000), .lit (.int .u64 1000000), .lit (.int .u64 10000000), .lit (.int .u64 100000000), .lit (.int .u64 1000000000), .lit (.int .u64 10000000000), .lit (.int .u64 100000000000), .lit (.int .u64 1000000000000), .lit (.int .u64 10000000000000), .lit (.int .u64 100000000000000), .lit (.int .u64 1000000000000000), .lit (.int .u64 10000000000000000), .lit (.int .u64 100000000000000000), .lit (.int .u64 1000000000000000000), .lit (.int .u64 10000000000000000000)]
def laid_incunable_pathq_axes {H : Type} : DataW H := .agg [.lit (.string []), .lit (.string [99, 104, 105, 108, 100, 58, 58]), .lit (.string [100, 101, 115, 99, 101, 110, 100, 97, 110, 116, 58, 58]), .lit (.string [100, 101, 115, 99, 101, 110, 100, 97, 110, 116, 45, 111, 114, 45, 115, 101, 108, 102, 58, 58]), .lit (.string [112, 97, 114, 101, 110, 116, 58, 58]), .lit (.string [97, 110, 99, 101, 115, 116, 111, 114, 58, 58]), .lit (.string [102, 111, 108, 108, 111, 119, 105, 110, 103, 45, 115, 105, 98, 108, 105, 110, 103, 58, 58]), .lit (.string [112, 114, 101, 99, 101, 100, 105, 110, 103, 45, 115, 105, 98, 108, 105, 110, 103, 58, 58]), .lit (.string [115, 101, 108, 102, 58, 58])]
def laid_incunable_pathq_tests {H : Type} : DataW H := .agg [.lit (.string []), .lit (.string []), .lit (.string [42]), .lit (.string [116, 101, 120, 116, 40, 41]), .lit (.string [110, 111, 100, 101, 40, 41])]

/-- 'incunablelaw07.PathqReads': WHATEVER THE INPUT: true; the input reads as it did. -/
def pathqReadsSpec : ChangeSpec := { name := "pathqReads", fn := fun _ => fun
  | [d] => { results := [.lit (.bool true)], args := [d] }
  | _ => none }
def pathqReadsRow : OpenClaim := { program := "ytncgkglebpobpaadoor", sum := "e6c75ae194479dfb351df0f6b1975daa1185312b93a54ffe9767a655fef1e334", func := "incunable/incunablelaw07.PathqReads", spec := "pathqReads", inPlace := ["internal/bytealg.IndexByteString", "internal/abi.NoEscape"], named := ["incunable/pathq.axes", "incunable/pathq.tests", "incunable/glyph.stretches", "internal/strconv.uint64pow10", "math/bits.deBruijn32tab", "math/bits.deBruijn64tab"], apart := false, laid := [("incunable/glyph.stretches", laid_incunable_glyph_stretches), ("math/bits.deBruijn32tab", laid_math_bits_deBruijn32tab), ("math/bits.deBruijn64tab", laid_math_bits_deBruijn64tab), ("internal/strconv.uint64pow10", laid_internal_strconv_uint64pow10), ("incunable/pathq.axes", laid_incunable_pathq_axes), ("incunable/pathq.tests", laid_incunable_pathq_tests)] }
def PathqReadsSaid : Prop := pathqReadsRow.holds Tryd.pinned (OpenSpec.ofChange pathqReadsSpec)

/-- ITS FALSE NEIGHBOUR: 'it returns false'. Refute it at one input. -/
def pathqReadsWrong : ChangeSpec := { name := "pathqReads", fn := fun _ => fun
  | [d] => { results := [.lit (.bool false)], args := [d] }
  | _ => none }
def PathqReadsWrongFalsely : Prop := pathqReadsRow.holds Tryd.pinned (OpenSpec.ofChange pathqReadsWrong)

/-- 'incunablelaw07.PathqRight': WHATEVER THE INPUT: true; the input reads as it did. -/
def pathqRightSpec : ChangeSpec := { name := "pathqRight", fn := fun _ => fun
  | [d] => { results := [.lit (.bool true)], args := [d] }
  | _ => none }
def pathqRightRow : OpenClaim := { program := "ytncgkglebpobpaadoor", sum := "e6c75ae194479dfb351df0f6b1975daa1185312b93a54ffe9767a655fef1e334", func := "incunable/incunablelaw07.PathqRight", spec := "pathqRight", inPlace := ["internal/bytealg.IndexByteString", "internal/abi.NoEscape"], recurses := true, named := ["incunable/pathq.axes", "incunable/pathq.tests", "incunable/glyph.stretches", "internal/strconv.uint64pow10", "math/bits.deBruijn32tab", "math/bits.deBruijn64tab"], apart := false, laid := [("incunable/glyph.stretches", laid_incunable_glyph_stretches), ("math/bits.deBruijn32tab", laid_math_bits_deBruijn32tab), ("math/bits.deBruijn64tab", laid_math_bits_deBruijn64tab), ("internal/strconv.uint64pow10", laid_internal_strconv_uint64pow10), ("incunable/pathq.axes", laid_incunable_pathq_axes), ("incunable/pathq.tests", laid_incunable_pathq_tests)] }
def PathqRightSaid : Prop := pathqRightRow.holds Tryd.pinned (OpenSpec.ofChange pathqRightSpec)

/-- ITS FALSE NEIGHBOUR: 'it returns false'. Refute it at one input. -/
def pathqRightWrong : ChangeSpec := { name := "pathqRight", fn := fun _ => fun
  | [d] => { results := [.lit (.bool false)], args := [d] }
  | _ => none }
def PathqRightWrongFalsely : Prop := pathqRightRow.holds Tryd.pinned (OpenSpec.ofChange pathqRightWrong)

/-- 'incunablelaw07.PathqBack': WHATEVER THE INPUT: true; the input reads as it did. -/
def pathqBackSpec : ChangeSpec := { name := "pathqBack", fn := fun _ => fun
  | [d] => { results := [.lit (.bool true)], args := [d] }
  | _ => none }
def pathqBackRow : OpenClaim := { program := "ytncgkglebpobpaadoor", sum := "e6c75ae194479dfb351df0f6b1975daa1185312b93a54ffe9767a655fef1e334", func := "incunable/incunablelaw07.PathqBack", spec := "pathqBack", inPlace := ["internal/abi.NoEscape", "internal/bytealg.IndexByteString"], named := ["incunable/pathq.axes", "incunable/pathq.tests", "incunable/glyph.stretches", "internal/strconv.uint64pow10", "math/bits.deBruijn32tab", "math/bits.deBruijn64tab"], apart := false, laid := [("incunable/glyph.stretches", laid_incunable_glyph_stretches), ("math/bits.deBruijn32tab", laid_math_bits_deBruijn32tab), ("math/bits.deBruijn64tab", laid_math_bits_deBruijn64tab), ("internal/strconv.uint64pow10", laid_internal_strconv_uint64pow10), ("incunable/pathq.axes", laid_incunable_pathq_axes), ("incunable/pathq.tests", laid_incunable_pathq_tests)] }
def PathqBackSaid : Prop := pathqBackRow.holds Tryd.pinned (OpenSpec.ofChange pathqBackSpec)

/-- ITS FALSE NEIGHBOUR: 'it returns false'. Refute it at one input. -/
def pathqBackWrong : ChangeSpec := { name := "pathqBack", fn := fun _ => fun
  | [d] => { results := [.lit (.bool false)], args := [d] }
  | _ => none }
def PathqBackWrongFalsely : Prop := pathqBackRow.holds Tryd.pinned (OpenSpec.ofChange pathqBackWrong)

/-- 'incunablelaw07.PathqAgain': WHATEVER THE INPUT: true; the input reads as it did. -/
def pathqAgainSpec : ChangeSpec := { name := "pathqAgain", fn := fun _ => fun
  | [d] => { results := [.lit (.bool true)], args := [d] }
  | _ => none }
def pathqAgainRow : OpenClaim := { program := "ytncgkglebpobpaadoor", sum := "e6c75ae194479dfb351df0f6b1975daa1185312b93a54ffe9767a655fef1e334", func := "incunable/incunablelaw07.PathqAgain", spec := "pathqAgain", inPlace := ["internal/bytealg.IndexByteString", "internal/abi.NoEscape"], named := ["incunable/pathq.axes", "incunable/pathq.tests", "incunable/glyph.stretches", "internal/strconv.uint64pow10", "math/bits.deBruijn32tab", "math/bits.deBruijn64tab"], apart := false, laid := [("incunable/glyph.stretches", laid_incunable_glyph_stretches), ("math/bits.deBruijn32tab", laid_math_bits_deBruijn32tab), ("math/bits.deBruijn64tab", laid_math_bits_deBruijn64tab), ("internal/strconv.uint64pow10", laid_internal_strconv_uint64pow10), ("incunable/pathq.axes", laid_incunable_pathq_axes), ("incunable/pathq.tests", laid_incunable_pathq_tests)] }
def PathqAgainSaid : Prop := pathqAgainRow.holds Tryd.pinned (OpenSpec.ofChange pathqAgainSpec)

/-- ITS FALSE NEIGHBOUR: 'it returns false'. Refute it at one input. -/
def pathqAgainWrong : ChangeSpec := { name := "pathqAgain", fn := fun _ => fun
  | [d] => { results := [.lit (.bool false)], args := [d] }
  | _ => none }
def PathqAgainWrongFalsely : Prop := pathqAgainRow.holds Tryd.pinned (OpenSpec.ofChange pathqAgainWrong)

/-- 'incunablelaw07.PathqJoins': WHATEVER THE INPUT: true; the input reads as it did. -/
def pathqJoinsSpec : ChangeSpec := { name := "pathqJoins", fn := fun _ => fun
  | [d1, d2] => { results := [.lit (.bool true)], args := [d1, d2] }
  | _ => none }
def pathqJoinsRow : OpenClaim := { program := "ytncgkglebpobpaadoor", sum := "e6c75ae194479dfb351df0f6b1975daa1185312b93a54ffe9767a655fef1e334", func := "incunable/incunablelaw07.PathqJoins", spec := "pathqJoins", inPlace := ["internal/bytealg.IndexByteString", "internal/abi.NoEscape"], named := ["incunable/pathq.axes", "incunable/pathq.tests", "incunable/glyph.stretches", "internal/strconv.uint64pow10", "math/bits.deBruijn32tab", "math/bits.deBruijn64tab"], apart := false, laid := [("incunable/glyph.stretches", laid_incunable_glyph_stretches), ("math/bits.deBruijn32tab", laid_math_bits_deBruijn32tab), ("math/bits.deBruijn64tab", laid_math_bits_deBruijn64tab), ("internal/strconv.uint64pow10", laid_internal_strconv_uint64pow10), ("incunable/pathq.axes", laid_incunable_pathq_axes), ("incunable/pathq.tests", laid_incunable_pathq_tests)] }
def PathqJoinsSaid : Prop := pathqJoinsRow.holds Tryd.pinned (OpenSpec.ofChange pathqJoinsSpec)

/-- ITS FALSE NEIGHBOUR: 'it returns false'. Refute it at one input. -/
def pathqJoinsWrong : ChangeSpec := { name := "pathqJoins", fn := fun _ => fun
  | [d1, d2] => { results := [.lit (.bool false)], args := [d1, d2] }
  | _ => none }
def PathqJoinsWrongFalsely : Prop := pathqJoinsRow.holds Tryd.pinned (OpenSpec.ofChange pathqJoinsWrong)

/-- 'incunablelaw07.PathqPlaces': WHATEVER THE INPUT: true; the input reads as it did. -/
def pathqPlacesSpec : ChangeSpec := { name := "pathqPlaces", fn := fun _ => fun
  | [d] => { results := [.lit (.bool true)], args := [d] }
  | _ => none }
def pathqPlacesRow : OpenClaim := { program := "ytncgkglebpobpaadoor", sum := "e6c75ae194479dfb351df0f6b1975daa1185312b93a54ffe9767a655fef1e334", func := "incunable/incunablelaw07.PathqPlaces", spec := "pathqPlaces", inPlace := ["internal/bytealg.IndexByteString", "internal/abi.NoEscape"], named := ["incunable/pathq.axes", "incunable/pathq.tests", "incunable/glyph.stretches", "internal/strconv.uint64pow10", "math/bits.deBruijn32tab", "math/bits.deBruijn64tab"], apart := false, laid := [("incunable/glyph.stretches", laid_incunable_glyph_stretches), ("math/bits.deBruijn32tab", laid_math_bits_deBruijn32tab), ("math/bits.deBruijn64tab", laid_math_bits_deBruijn64tab), ("internal/strconv.uint64pow10", laid_internal_strconv_uint64pow10), ("incunable/pathq.axes", laid_incunable_pathq_axes), ("incunable/pathq.tests", laid_incunable_pathq_tests)] }
def PathqPlacesSaid : Prop := pathqPlacesRow.holds Tryd.pinned (OpenSpec.ofChange pathqPlacesSpec)

/-- ITS FALSE NEIGHBOUR: 'it returns false'. Refute it at one input. -/
def pathqPlacesWrong : ChangeSpec := { name := "pathqPlaces", fn := fun _ => fun
  | [d] => { results := [.lit (.bool false)], args := [d] }
  | _ => none }
def PathqPlacesWrongFalsely : Prop := pathqPlacesRow.holds Tryd.pinned (OpenSpec.ofChange pathqPlacesWrong)

/-- 'incunablelaw07.PathqShort': WHATEVER THE INPUT: true; the input reads as it did. -/
def pathqShortSpec : ChangeSpec := { name := "pathqShort", fn := fun _ => fun
  | [d] => { results := [.lit (.bool true)], args := [d] }
  | _ => none }
def pathqShortRow : OpenClaim := { program := "ytncgkglebpobpaadoor", sum := "e6c75ae194479dfb351df0f6b1975daa1185312b93a54ffe9767a655fef1e334", func := "incunable/incunablelaw07.PathqShort", spec := "pathqShort", inPlace := ["internal/bytealg.IndexByteString", "internal/abi.NoEscape"], named := ["incunable/pathq.axes", "incunable/pathq.tests", "incunable/glyph.stretches", "internal/strconv.uint64pow10", "math/bits.deBruijn32tab", "math/bits.deBruijn64tab"], apart := false, laid := [("incunable/glyph.stretches", laid_incunable_glyph_stretches), ("math/bits.deBruijn32tab", laid_math_bits_deBruijn32tab), ("math/bits.deBruijn64tab", laid_math_bits_deBruijn64tab), ("internal/strconv.uint64pow10", laid_internal_strconv_uint64pow10), ("incunable/pathq.axes", laid_incunable_pathq_axes), ("incunable/pathq.tests", laid_incunable_pathq_tests)] }
def PathqShortSaid : Prop := pathqShortRow.holds Tryd.pinned (OpenSpec.ofChange pathqShortSpec)

/-- ITS FALSE NEIGHBOUR: 'it returns false'. Refute it at one input. -/
def pathqShortWrong : ChangeSpec := { name := "pathqShort", fn := fun _ => fun
  | [d] => { results := [.lit (.bool false)], args := [d] }
  | _ => none }
def PathqShortWrongFalsely : Prop := pathqShortRow.holds Tryd.pinned (OpenSpec.ofChange pathqShortWrong)

/- THE SECOND FORM. 'bulk': how many values and letters a reading holds, each counted each time it is reached (what is shared counts as often as it is met; a slice's spare places count too). A statement '..UptoSaid' is the law's where the arguments, and the package variables that the reading takes, are together of bulk at most 1048576: NARROWER than '..Said'. Prove '..Said' where nothing that the law and all that it calls make is longer than what came in: it says more and counts as full. Else prove '..UptoSaid'. A law counts once. -/
mutual
def uptoBulk {H : Type} : DataW H → Nat
  | .lit (.string bytes) => bytes.length + 1
  | .lit _ => 1
  | .nil => 1
  | .ptr d => uptoBulk d + 1
  | .slice elems spare => uptoBulkAll elems + uptoBulkAll spare + 1
  | .agg parts => uptoBulkAll parts + 1
  | .iface _ d => uptoBulk d + 1
  | .map entries => uptoBulkEntries entries + 1
  | .held _ => 1
def uptoBulkAll {H : Type} : List (DataW H) → Nat
  | [] => 0
  | d :: r => uptoBulk d + uptoBulkAll r
def uptoBulkEntries {H : Type} : List (Lit × DataW H) → Nat
  | [] => 0
  | x :: r => uptoBulkEntry x + uptoBulkEntries r
def uptoBulkEntry {H : Type} : Lit × DataW H → Nat
  | (.string bytes, d) => bytes.length + uptoBulk d + 1
  | (_, d) => uptoBulk d + 1
 end
def uptoSmall : (H : Type) → List (DataW H) → Bool := fun _ ds => decide (uptoBulkAll ds ≤ 1048576)
def OpenSpec.upto (s : _root_.Go.ChangeSpec) : _root_.Go.OpenSpec := { _root_.Go.OpenSpec.ofChange s with cond := some uptoSmall }

/-- 'incunablelaw07.PathqReads', WHERE WHAT IT READS IS OF BULK AT MOST 1048576: true; the input reads as it did. -/
def pathqReadsUptoRow : OpenClaim := { program := "ytncgkglebpobpaadoor", sum := "e6c75ae194479dfb351df0f6b1975daa1185312b93a54ffe9767a655fef1e334", func := "incunable/incunablelaw07.PathqReads", spec := "pathqReads", inPlace := ["internal/bytealg.IndexByteString", "internal/abi.NoEscape"], named := ["incunable/pathq.axes", "incunable/pathq.tests", "incunable/glyph.stretches", "internal/strconv.uint64pow10", "math/bits.deBruijn32tab", "math/bits.deBruijn64tab"], apart := false, laid := [("incunable/glyph.stretches", laid_incunable_glyph_stretches), ("math/bits.deBruijn32tab", laid_math_bits_deBruijn32tab), ("math/bits.deBruijn64tab", laid_math_bits_deBruijn64tab), ("internal/strconv.uint64pow10", laid_internal_strconv_uint64pow10), ("incunable/pathq.axes", laid_incunable_pathq_axes), ("incunable/pathq.tests", laid_incunable_pathq_tests)], narrowed := true }
def PathqReadsUptoSaid : Prop := pathqReadsUptoRow.holds Tryd.pinned (OpenSpec.upto pathqReadsSpec)

/-- 'incunablelaw07.PathqRight', WHERE WHAT IT READS IS OF BULK AT MOST 1048576: true; the input reads as it did. -/
def pathqRightUptoRow : OpenClaim := { program := "ytncgkglebpobpaadoor", sum := "e6c75ae194479dfb351df0f6b1975daa1185312b93a54ffe9767a655fef1e334", func := "incunable/incunablelaw07.PathqRight", spec := "pathqRight", inPlace := ["internal/bytealg.IndexByteString", "internal/abi.NoEscape"], recurses := true, named := ["incunable/pathq.axes", "incunable/pathq.tests", "incunable/glyph.stretches", "internal/strconv.uint64pow10", "math/bits.deBruijn32tab", "math/bits.deBruijn64tab"], apart := false, laid := [("incunable/glyph.stretches", laid_incunable_glyph_stretches), ("math/bits.deBruijn32tab", laid_math_bits_deBruijn32tab), ("math/bits.deBruijn64tab", laid_math_bits_deBruijn64tab), ("internal/strconv.uint64pow10", laid_internal_strconv_uint64pow10), ("incunable/pathq.axes", laid_incunable_pathq_axes), ("incunable/pathq.tests", laid_incunable_pathq_tests)], narrowed := true }
def PathqRightUptoSaid : Prop := pathqRightUptoRow.holds Tryd.pinned (OpenSpec.upto pathqRightSpec)

/-- 'incunablelaw07.PathqBack', WHERE WHAT IT READS IS OF BULK AT MOST 1048576: true; the input reads as it did. -/
def pathqBackUptoRow : OpenClaim := { program := "ytncgkglebpobpaadoor", sum := "e6c75ae194479dfb351df0f6b1975daa1185312b93a54ffe9767a655fef1e334", func := "incunable/incunablelaw07.PathqBack", spec := "pathqBack", inPlace := ["internal/abi.NoEscape", "internal/bytealg.IndexByteString"], named := ["incunable/pathq.axes", "incunable/pathq.tests", "incunable/glyph.stretches", "internal/strconv.uint64pow10", "math/bits.deBruijn32tab", "math/bits.deBruijn64tab"], apart := false, laid := [("incunable/glyph.stretches", laid_incunable_glyph_stretches), ("math/bits.deBruijn32tab", laid_math_bits_deBruijn32tab), ("math/bits.deBruijn64tab", laid_math_bits_deBruijn64tab), ("internal/strconv.uint64pow10", laid_internal_strconv_uint64pow10), ("incunable/pathq.axes", laid_incunable_pathq_axes), ("incunable/pathq.tests", laid_incunable_pathq_tests)], narrowed := true }
def PathqBackUptoSaid : Prop := pathqBackUptoRow.holds Tryd.pinned (OpenSpec.upto pathqBackSpec)

/-- 'incunablelaw07.PathqAgain', WHERE WHAT IT READS IS OF BULK AT MOST 1048576: true; the input reads as it did. -/
def pathqAgainUptoRow : OpenClaim := { program := "ytncgkglebpobpaadoor", sum := "e6c75ae194479dfb351df0f6b1975daa1185312b93a54ffe9767a655fef1e334", func := "incunable/incunablelaw07.PathqAgain", spec := "pathqAgain", inPlace := ["internal/bytealg.IndexByteString", "internal/abi.NoEscape"], named := ["incunable/pathq.axes", "incunable/pathq.tests", "incunable/glyph.stretches", "internal/strconv.uint64pow10", "math/bits.deBruijn32tab", "math/bits.deBruijn64tab"], apart := false, laid := [("incunable/glyph.stretches", laid_incunable_glyph_stretches), ("math/bits.deBruijn32tab", laid_math_bits_deBruijn32tab), ("math/bits.deBruijn64tab", laid_math_bits_deBruijn64tab), ("internal/strconv.uint64pow10", laid_internal_strconv_uint64pow10), ("incunable/pathq.axes", laid_incunable_pathq_axes), ("incunable/pathq.tests", laid_incunable_pathq_tests)], narrowed := true }
def PathqAgainUptoSaid : Prop := pathqAgainUptoRow.holds Tryd.pinned (OpenSpec.upto pathqAgainSpec)

/-- 'incunablelaw07.PathqJoins', WHERE WHAT IT READS IS OF BULK AT MOST 1048576: true; the input reads as it did. -/
def pathqJoinsUptoRow : OpenClaim := { program := "ytncgkglebpobpaadoor", sum := "e6c75ae194479dfb351df0f6b1975daa1185312b93a54ffe9767a655fef1e334", func := "incunable/incunablelaw07.PathqJoins", spec := "pathqJoins", inPlace := ["internal/bytealg.IndexByteString", "internal/abi.NoEscape"], named := ["incunable/pathq.axes", "incunable/pathq.tests", "incunable/glyph.stretches", "internal/strconv.uint64pow10", "math/bits.deBruijn32tab", "math/bits.deBruijn64tab"], apart := false, laid := [("incunable/glyph.stretches", laid_incunable_glyph_stretches), ("math/bits.deBruijn32tab", laid_math_bits_deBruijn32tab), ("math/bits.deBruijn64tab", laid_math_bits_deBruijn64tab), ("internal/strconv.uint64pow10", laid_internal_strconv_uint64pow10), ("incunable/pathq.axes", laid_incunable_pathq_axes), ("incunable/pathq.tests", laid_incunable_pathq_tests)], narrowed := true }
def PathqJoinsUptoSaid : Prop := pathqJoinsUptoRow.holds Tryd.pinned (OpenSpec.upto pathqJoinsSpec)

/-- 'incunablelaw07.PathqPlaces', WHERE WHAT IT READS IS OF BULK AT MOST 1048576: true; the input reads as it did. -/
def pathqPlacesUptoRow : OpenClaim := { program := "ytncgkglebpobpaadoor", sum := "e6c75ae194479dfb351df0f6b1975daa1185312b93a54ffe9767a655fef1e334", func := "incunable/incunablelaw07.PathqPlaces", spec := "pathqPlaces", inPlace := ["internal/bytealg.IndexByteString", "internal/abi.NoEscape"], named := ["incunable/pathq.axes", "incunable/pathq.tests", "incunable/glyph.stretches", "internal/strconv.uint64pow10", "math/bits.deBruijn32tab", "math/bits.deBruijn64tab"], apart := false, laid := [("incunable/glyph.stretches", laid_incunable_glyph_stretches), ("math/bits.deBruijn32tab", laid_math_bits_deBruijn32tab), ("math/bits.deBruijn64tab", laid_math_bits_deBruijn64tab), ("internal/strconv.uint64pow10", laid_internal_strconv_uint64pow10), ("incunable/pathq.axes", laid_incunable_pathq_axes), ("incunable/pathq.tests", laid_incunable_pathq_tests)], narrowed := true }
def PathqPlacesUptoSaid : Prop := pathqPlacesUptoRow.holds Tryd.pinned (OpenSpec.upto pathqPlacesSpec)

/-- 'incunablelaw07.PathqShort', WHERE WHAT IT READS IS OF BULK AT MOST 1048576: true; the input reads as it did. -/
def pathqShortUptoRow : OpenClaim := { program := "ytncgkglebpobpaadoor", sum := "e6c75ae194479dfb351df0f6b1975daa1185312b93a54ffe9767a655fef1e334", func := "incunable/incunablelaw07.PathqShort", spec := "pathqShort", inPlace := ["internal/bytealg.IndexByteString", "internal/abi.NoEscape"], named := ["incunable/pathq.axes", "incunable/pathq.tests", "incunable/glyph.stretches", "internal/strconv.uint64pow10", "math/bits.deBruijn32tab", "math/bits.deBruijn64tab"], apart := false, laid := [("incunable/glyph.stretches", laid_incunable_glyph_stretches), ("math/bits.deBruijn32tab", laid_math_bits_deBruijn32tab), ("math/bits.deBruijn64tab", laid_math_bits_deBruijn64tab), ("internal/strconv.uint64pow10", laid_internal_strconv_uint64pow10), ("incunable/pathq.axes", laid_incunable_pathq_axes), ("incunable/pathq.tests", laid_incunable_pathq_tests)], narrowed := true }
def PathqShortUptoSaid : Prop := pathqShortUptoRow.holds Tryd.pinned (OpenSpec.upto pathqShortSpec)

end Rows
end Go.Proofs.YtncgkglebpobpaaDoor
