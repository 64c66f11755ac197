/- The library's contracts at this program: strings.IndexByte, Compare: each is one application of a contract that the library has proved over any program; here its bodies' and types' numbers are laid. -/
import Derived.Shelf.Small.Strs
import Derived.Test.YtmnegpdegfianaaGreatDoorRows
namespace Go.Proofs.YtmnegpdegfianaaGreatDoor
open Go.Shelf Go.RowKit

def renIb : Go.Shelf.Ren := ⟨fun | 137 => 159 | 217 => 182 | 266 => 193 | n => n, fun | 0 => 0  | 1 => 1  | 2 => 2  | 3 => 3  | 4 => 4  | 5 => 5  | 9 => 9  | 12 => 12  | 21 => 21  | 22 => 212   | 24 => 140    | 27 => 188  | 28 => 102   | 30 => 172  | 31 => 87    | 34 => 101  | 35 => 211   | 37 => 71    | 40 => 185       | 46 => 199  | 47 => 216     | 51 => 232  | 52 => 231  | 53 => 234  | 54 => 233  | 55 => 201                | 70 => 70  | 72 => 73  | 73 => 77  | 75 => 136  | 76 => 137  | 77 => 138    | 80 => 82  | 81 => 61                      | 103 => 186  | 104 => 32  | 105 => 175  | 106 => 176  | 107 => 248     | 111 => 155  | 112 => 174   | 114 => 170              | 127 => 144     | 131 => 50                              | 164 => 195  | 165 => 196                  | 182 => 225  | 183 => 226                               | 218 => 236  | 219 => 237  | 220 => 238   | 222 => 240       | 228 => 244  | 229 => 245          | 245 => 257  | n => n, fun | n => n⟩
theorem laysIb : Go.Proofs.Lays.n137 Tryz.prog renIb := {
  mixed := by kernel_rfl
  f137 := Tryz.func159.trans (congrArg some (by kernel_rfl))
  f217 := Tryz.func182.trans (congrArg some (by kernel_rfl))
  f266 := Tryz.func193.trans (congrArg some (by kernel_rfl))
  t3 := Tryz.underlying3
  a3 := Tryz.isAgg3
  z3 := Tryz.sizeOf3
  v3 := Tryz.zeroValue3
  t5 := Tryz.underlying5
  a5 := Tryz.isAgg5
  z5 := Tryz.sizeOf5
  v5 := Tryz.zeroValue5
  t9 := Tryz.underlying9
  a9 := Tryz.isAgg9
  z9 := Tryz.sizeOf9
  v9 := Tryz.zeroValue9 }
theorem indexByte_any (s : ByteArray) (c : Int) (w : World) : Calls Tryz.prog 159 #[.string s, .int .u8 c] w fun e w' => e = .returned (.int .i64 (Lib.indexByte s.data.toList c.toNat.toUInt8)) ∧ w' = w := Any.strings_IndexByte laysIb s c w
def renCo : Go.Shelf.Ren := ⟨fun | 106 => 167 | 213 => 187 | 265 => 205 | n => n, fun | 0 => 0  | 1 => 1  | 2 => 2  | 3 => 3  | 4 => 4  | 5 => 5  | 9 => 9  | 12 => 12  | 21 => 21  | 22 => 212   | 24 => 140    | 27 => 188  | 28 => 102   | 30 => 172  | 31 => 87    | 34 => 101  | 35 => 211   | 37 => 71    | 40 => 185       | 46 => 199  | 47 => 216     | 51 => 232  | 52 => 231  | 53 => 234  | 54 => 233  | 55 => 201                | 70 => 70  | 72 => 73  | 73 => 77  | 75 => 136  | 76 => 137  | 77 => 138    | 80 => 82  | 81 => 61                      | 103 => 186  | 104 => 32  | 105 => 175  | 106 => 176  | 107 => 248     | 111 => 155  | 112 => 174   | 114 => 170              | 127 => 144     | 131 => 50                              | 164 => 195  | 165 => 196                  | 182 => 225  | 183 => 226                               | 218 => 236  | 219 => 237  | 220 => 238   | 222 => 240       | 228 => 244  | 229 => 245          | 245 => 257  | n => n, fun | n => n⟩
theorem laysCo : Go.Proofs.Lays.n106 Tryz.prog renCo := {
  mixed := by kernel_rfl
  f106 := Tryz.func167.trans (congrArg some (by kernel_rfl))
  f213 := Tryz.func187.trans (congrArg some (by kernel_rfl))
  f265 := Tryz.func205.trans (congrArg some (by kernel_rfl))
  t3 := Tryz.underlying3
  a3 := Tryz.isAgg3
  z3 := Tryz.sizeOf3
  v3 := Tryz.zeroValue3
  t9 := Tryz.underlying9
  a9 := Tryz.isAgg9
  z9 := Tryz.sizeOf9
  v9 := Tryz.zeroValue9 }
theorem compare_any (a b : ByteArray) (w : World) : Calls Tryz.prog 167 #[.string a, .string b] w fun e w' => e = .returned (.int .i64 (Lib.compareBytes a.data.toList b.data.toList)) ∧ w' = w := Any.strings_Compare laysCo a b w
end Go.Proofs.YtmnegpdegfianaaGreatDoor
