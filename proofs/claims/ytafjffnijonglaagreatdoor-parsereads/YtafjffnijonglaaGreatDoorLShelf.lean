/- The library's contracts at this program: strings.IndexByte, Compare: each is one application of a contract that the library has proved over any program; here its bodies' and types' numbers are laid. -/
import Derived.Shelf.Small.Strs
import Derived.Test.YtafjffnijonglaaGreatDoorRows
namespace Go.Proofs.YtafjffnijonglaaGreatDoor
open Go.Shelf Go.RowKit

def renIb : Go.Shelf.Ren := ⟨fun | 137 => 53 | 217 => 77 | 266 => 92 | n => n, fun | 0 => 0  | 1 => 1  | 2 => 2  | 3 => 3  | 4 => 4  | 5 => 5  | 9 => 9  | 12 => 12  | 21 => 21  | 22 => 98   | 24 => 96    | 27 => 81  | 28 => 104    | 31 => 35       | 37 => 105    | 40 => 90  | 41 => 86      | 46 => 103  | 47 => 102     | 51 => 120  | 52 => 119  | 53 => 122  | 54 => 121  | 55 => 79                | 70 => 123  | 72 => 125   | 75 => 127  | 76 => 128  | 77 => 129    | 80 => 78  | 81 => 155                      | 103 => 76  | 104 => 28  | 105 => 92  | 106 => 93  | 107 => 148                     | 127 => 141     | 131 => 117                              | 164 => 145  | 165 => 146                  | 182 => 112  | 183 => 113                               | 218 => 133  | 219 => 134  | 220 => 135   | 222 => 137       | 228 => 142  | 229 => 94          | 245 => 158  | n => n, fun | n => n⟩
theorem laysIb : Go.Proofs.Lays.n137 Tryz.prog renIb := {
  mixed := by kernel_rfl
  f137 := Tryz.func53.trans (congrArg some (by kernel_rfl))
  f217 := Tryz.func77.trans (congrArg some (by kernel_rfl))
  f266 := Tryz.func92.trans (congrArg some (by kernel_rfl))
  t3 := Tryz.underlying3
  a3 := Tryz.isAgg3
  z3 := Tryz.sizeOf3
  v3 := Tryz.zeroValue3
  t5 := Tryz.underlying5
  a5 := Tryz.isAgg5
  z5 := Tryz.sizeOf5
  v5 := Tryz.zeroValue5
  t9 := Tryz.underlying9
  a9 := Tryz.isAgg9
  z9 := Tryz.sizeOf9
  v9 := Tryz.zeroValue9 }
theorem indexByte_any (s : ByteArray) (c : Int) (w : World) : Calls Tryz.prog 53 #[.string s, .int .u8 c] w fun e w' => e = .returned (.int .i64 (Lib.indexByte s.data.toList c.toNat.toUInt8)) ∧ w' = w := Any.strings_IndexByte laysIb s c w
def renCo : Go.Shelf.Ren := ⟨fun | 106 => 61 | 213 => 82 | 265 => 104 | n => n, fun | 0 => 0  | 1 => 1  | 2 => 2  | 3 => 3  | 4 => 4  | 5 => 5  | 9 => 9  | 12 => 12  | 21 => 21  | 22 => 98   | 24 => 96    | 27 => 81  | 28 => 104    | 31 => 35       | 37 => 105    | 40 => 90  | 41 => 86      | 46 => 103  | 47 => 102     | 51 => 120  | 52 => 119  | 53 => 122  | 54 => 121  | 55 => 79                | 70 => 123  | 72 => 125   | 75 => 127  | 76 => 128  | 77 => 129    | 80 => 78  | 81 => 155                      | 103 => 76  | 104 => 28  | 105 => 92  | 106 => 93  | 107 => 148                     | 127 => 141     | 131 => 117                              | 164 => 145  | 165 => 146                  | 182 => 112  | 183 => 113                               | 218 => 133  | 219 => 134  | 220 => 135   | 222 => 137       | 228 => 142  | 229 => 94          | 245 => 158  | n => n, fun | n => n⟩
theorem laysCo : Go.Proofs.Lays.n106 Tryz.prog renCo := {
  mixed := by kernel_rfl
  f106 := Tryz.func61.trans (congrArg some (by kernel_rfl))
  f213 := Tryz.func82.trans (congrArg some (by kernel_rfl))
  f265 := Tryz.func104.trans (congrArg some (by kernel_rfl))
  t3 := Tryz.underlying3
  a3 := Tryz.isAgg3
  z3 := Tryz.sizeOf3
  v3 := Tryz.zeroValue3
  t9 := Tryz.underlying9
  a9 := Tryz.isAgg9
  z9 := Tryz.sizeOf9
  v9 := Tryz.zeroValue9 }
theorem compare_any (a b : ByteArray) (w : World) : Calls Tryz.prog 61 #[.string a, .string b] w fun e w' => e = .returned (.int .i64 (Lib.compareBytes a.data.toList b.data.toList)) ∧ w' = w := Any.strings_Compare laysCo a b w
end Go.Proofs.YtafjffnijonglaaGreatDoor
