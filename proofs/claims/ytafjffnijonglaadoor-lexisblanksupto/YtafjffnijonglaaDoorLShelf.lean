/- The library's contracts at this program: strings.IndexByte, Compare: each is one application of a contract that the library has proved over any program; here its bodies' and types' numbers are laid. -/
import Derived.Shelf.Small.Strs
import Derived.Test.YtafjffnijonglaaDoorRows
namespace Go.Proofs.YtafjffnijonglaaDoor
open Go.Shelf Go.RowKit

def renIb : Go.Shelf.Ren := ⟨fun | 137 => 52 | 217 => 65 | 266 => 73 | n => n, fun | 0 => 0  | 1 => 1  | 2 => 2  | 3 => 3  | 4 => 4  | 5 => 5  | 9 => 9  | 12 => 12  | 21 => 21  | 22 => 33   | 24 => 129    | 27 => 81     | 31 => 63       | 37 => 110    | 40 => 62       | 46 => 72  | 47 => 93     | 51 => 106  | 52 => 105  | 53 => 108  | 54 => 107  | 55 => 79                | 70 => 109  | 72 => 112   | 75 => 114  | 76 => 115  | 77 => 116    | 80 => 78  | 81 => 143                      | 103 => 38  | 104 => 37  | 105 => 60  | 106 => 61  | 107 => 135                     | 127 => 125     | 131 => 103                              | 164 => 132  | 165 => 133                  | 182 => 98  | 183 => 99                               | 218 => 117  | 219 => 118  | 220 => 119   | 222 => 121       | 228 => 126  | 229 => 127          | 245 => 146  | n => n, fun | n => n⟩
theorem laysIb : Go.Proofs.Lays.n137 Tryd.prog renIb := {
  mixed := by kernel_rfl
  f137 := Tryd.func52.trans (congrArg some (by kernel_rfl))
  f217 := Tryd.func65.trans (congrArg some (by kernel_rfl))
  f266 := Tryd.func73.trans (congrArg some (by kernel_rfl))
  t3 := Tryd.underlying3
  a3 := Tryd.isAgg3
  z3 := Tryd.sizeOf3
  v3 := Tryd.zeroValue3
  t5 := Tryd.underlying5
  a5 := Tryd.isAgg5
  z5 := Tryd.sizeOf5
  v5 := Tryd.zeroValue5
  t9 := Tryd.underlying9
  a9 := Tryd.isAgg9
  z9 := Tryd.sizeOf9
  v9 := Tryd.zeroValue9 }
theorem indexByte_any (s : ByteArray) (c : Int) (w : World) : Calls Tryd.prog 52 #[.string s, .int .u8 c] w fun e w' => e = .returned (.int .i64 (Lib.indexByte s.data.toList c.toNat.toUInt8)) ∧ w' = w := Any.strings_IndexByte laysIb s c w
def renCo : Go.Shelf.Ren := ⟨fun | 106 => 60 | 213 => 70 | 265 => 85 | n => n, fun | 0 => 0  | 1 => 1  | 2 => 2  | 3 => 3  | 4 => 4  | 5 => 5  | 9 => 9  | 12 => 12  | 21 => 21  | 22 => 33   | 24 => 129    | 27 => 81     | 31 => 63       | 37 => 110    | 40 => 62       | 46 => 72  | 47 => 93     | 51 => 106  | 52 => 105  | 53 => 108  | 54 => 107  | 55 => 79                | 70 => 109  | 72 => 112   | 75 => 114  | 76 => 115  | 77 => 116    | 80 => 78  | 81 => 143                      | 103 => 38  | 104 => 37  | 105 => 60  | 106 => 61  | 107 => 135                     | 127 => 125     | 131 => 103                              | 164 => 132  | 165 => 133                  | 182 => 98  | 183 => 99                               | 218 => 117  | 219 => 118  | 220 => 119   | 222 => 121       | 228 => 126  | 229 => 127          | 245 => 146  | n => n, fun | n => n⟩
theorem laysCo : Go.Proofs.Lays.n106 Tryd.prog renCo := {
  mixed := by kernel_rfl
  f106 := Tryd.func60.trans (congrArg some (by kernel_rfl))
  f213 := Tryd.func70.trans (congrArg some (by kernel_rfl))
  f265 := Tryd.func85.trans (congrArg some (by kernel_rfl))
  t3 := Tryd.underlying3
  a3 := Tryd.isAgg3
  z3 := Tryd.sizeOf3
  v3 := Tryd.zeroValue3
  t9 := Tryd.underlying9
  a9 := Tryd.isAgg9
  z9 := Tryd.sizeOf9
  v9 := Tryd.zeroValue9 }
theorem compare_any (a b : ByteArray) (w : World) : Calls Tryd.prog 60 #[.string a, .string b] w fun e w' => e = .returned (.int .i64 (Lib.compareBytes a.data.toList b.data.toList)) ∧ w' = w := Any.strings_Compare laysCo a b w
end Go.Proofs.YtafjffnijonglaaDoor
