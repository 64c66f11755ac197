/- The library's contracts at this program: strings.IndexByte, Compare: each is one application of a contract that the library has proved over any program; here its bodies' and types' numbers are laid. -/
import Derived.Shelf.Small.Strs
import Derived.Test.YtkmcnkfmlkdeeaaGreatDoorRows
namespace Go.Proofs.YtkmcnkfmlkdeeaaGreatDoor
open Go.Shelf Go.RowKit

def renIb : Go.Shelf.Ren := ⟨fun | 137 => 33 | 217 => 56 | 266 => 71 | n => n, fun | 0 => 0  | 1 => 1  | 2 => 2  | 3 => 3  | 4 => 4  | 5 => 5  | 9 => 9  | 12 => 12  | 21 => 21  | 22 => 81   | 24 => 79    | 27 => 64  | 28 => 88    | 31 => 87       | 37 => 89    | 40 => 73  | 41 => 69      | 46 => 86  | 47 => 85     | 51 => 104  | 52 => 103  | 53 => 106  | 54 => 105  | 55 => 61                | 70 => 107  | 72 => 109   | 75 => 111  | 76 => 112  | 77 => 113    | 80 => 60  | 81 => 139                       | 104 => 35  | 105 => 75  | 106 => 76  | 107 => 132                     | 127 => 125     | 131 => 101                              | 164 => 129  | 165 => 130                  | 182 => 96  | 183 => 97                               | 218 => 117  | 219 => 118  | 220 => 119   | 222 => 121       | 228 => 126  | 229 => 77          | 245 => 142  | n => n, fun | n => n⟩
theorem laysIb : Go.Proofs.Lays.n137 Tryz.prog renIb := {
  mixed := by kernel_rfl
  f137 := Tryz.func33.trans (congrArg some (by kernel_rfl))
  f217 := Tryz.func56.trans (congrArg some (by kernel_rfl))
  f266 := Tryz.func71.trans (congrArg some (by kernel_rfl))
  t3 := Tryz.underlying3
  a3 := Tryz.isAgg3
  z3 := Tryz.sizeOf3
  v3 := Tryz.zeroValue3
  t5 := Tryz.underlying5
  a5 := Tryz.isAgg5
  z5 := Tryz.sizeOf5
  v5 := Tryz.zeroValue5
  t9 := Tryz.underlying9
  a9 := Tryz.isAgg9
  z9 := Tryz.sizeOf9
  v9 := Tryz.zeroValue9 }
theorem indexByte_any (s : ByteArray) (c : Int) (w : World) : Calls Tryz.prog 33 #[.string s, .int .u8 c] w fun e w' => e = .returned (.int .i64 (Lib.indexByte s.data.toList c.toNat.toUInt8)) ∧ w' = w := Any.strings_IndexByte laysIb s c w
def renCo : Go.Shelf.Ren := ⟨fun | 106 => 41 | 213 => 61 | 265 => 83 | n => n, fun | 0 => 0  | 1 => 1  | 2 => 2  | 3 => 3  | 4 => 4  | 5 => 5  | 9 => 9  | 12 => 12  | 21 => 21  | 22 => 81   | 24 => 79    | 27 => 64  | 28 => 88    | 31 => 87       | 37 => 89    | 40 => 73  | 41 => 69      | 46 => 86  | 47 => 85     | 51 => 104  | 52 => 103  | 53 => 106  | 54 => 105  | 55 => 61                | 70 => 107  | 72 => 109   | 75 => 111  | 76 => 112  | 77 => 113    | 80 => 60  | 81 => 139                       | 104 => 35  | 105 => 75  | 106 => 76  | 107 => 132                     | 127 => 125     | 131 => 101                              | 164 => 129  | 165 => 130                  | 182 => 96  | 183 => 97                               | 218 => 117  | 219 => 118  | 220 => 119   | 222 => 121       | 228 => 126  | 229 => 77          | 245 => 142  | n => n, fun | n => n⟩
theorem laysCo : Go.Proofs.Lays.n106 Tryz.prog renCo := {
  mixed := by kernel_rfl
  f106 := Tryz.func41.trans (congrArg some (by kernel_rfl))
  f213 := Tryz.func61.trans (congrArg some (by kernel_rfl))
  f265 := Tryz.func83.trans (congrArg some (by kernel_rfl))
  t3 := Tryz.underlying3
  a3 := Tryz.isAgg3
  z3 := Tryz.sizeOf3
  v3 := Tryz.zeroValue3
  t9 := Tryz.underlying9
  a9 := Tryz.isAgg9
  z9 := Tryz.sizeOf9
  v9 := Tryz.zeroValue9 }
theorem compare_any (a b : ByteArray) (w : World) : Calls Tryz.prog 41 #[.string a, .string b] w fun e w' => e = .returned (.int .i64 (Lib.compareBytes a.data.toList b.data.toList)) ∧ w' = w := Any.strings_Compare laysCo a b w
end Go.Proofs.YtkmcnkfmlkdeeaaGreatDoor
