/- The library's contracts at this program: strings.IndexByte, Compare: each is one application of a contract that the library has proved over any program; here its bodies' and types' numbers are laid. -/
import Derived.Shelf.Small.Strs
import Derived.Test.YtkmcnkfmlkdeeaaDoorRows
namespace Go.Proofs.YtkmcnkfmlkdeeaaDoor
open Go.Shelf Go.RowKit

def renIb : Go.Shelf.Ren := ⟨fun | 137 => 43 | 217 => 63 | 266 => 75 | n => n, fun | 0 => 0  | 1 => 1  | 2 => 2  | 3 => 3  | 4 => 4  | 5 => 5  | 9 => 9  | 12 => 12  | 21 => 21  | 22 => 40   | 24 => 85    | 27 => 73  | 28 => 95    | 31 => 94       | 37 => 96    | 40 => 58  | 41 => 78      | 46 => 67  | 47 => 93     | 51 => 108  | 52 => 107  | 53 => 110  | 54 => 109  | 55 => 70                | 70 => 111  | 72 => 113   | 75 => 115  | 76 => 116  | 77 => 117    | 80 => 69  | 81 => 140                      | 103 => 42  | 104 => 37  | 105 => 56  | 106 => 57  | 107 => 133                     | 127 => 126     | 131 => 105                              | 164 => 130  | 165 => 131                  | 182 => 100  | 183 => 101                               | 218 => 118  | 219 => 119  | 220 => 120   | 222 => 122       | 228 => 127  | 229 => 83          | 245 => 143  | n => n, fun | n => n⟩
theorem laysIb : Go.Proofs.Lays.n137 Tryd.prog renIb := {
  mixed := by kernel_rfl
  f137 := Tryd.func43.trans (congrArg some (by kernel_rfl))
  f217 := Tryd.func63.trans (congrArg some (by kernel_rfl))
  f266 := Tryd.func75.trans (congrArg some (by kernel_rfl))
  t3 := Tryd.underlying3
  a3 := Tryd.isAgg3
  z3 := Tryd.sizeOf3
  v3 := Tryd.zeroValue3
  t5 := Tryd.underlying5
  a5 := Tryd.isAgg5
  z5 := Tryd.sizeOf5
  v5 := Tryd.zeroValue5
  t9 := Tryd.underlying9
  a9 := Tryd.isAgg9
  z9 := Tryd.sizeOf9
  v9 := Tryd.zeroValue9 }
theorem indexByte_any (s : ByteArray) (c : Int) (w : World) : Calls Tryd.prog 43 #[.string s, .int .u8 c] w fun e w' => e = .returned (.int .i64 (Lib.indexByte s.data.toList c.toNat.toUInt8)) ∧ w' = w := Any.strings_IndexByte laysIb s c w
def renCo : Go.Shelf.Ren := ⟨fun | 106 => 51 | 213 => 68 | 265 => 87 | n => n, fun | 0 => 0  | 1 => 1  | 2 => 2  | 3 => 3  | 4 => 4  | 5 => 5  | 9 => 9  | 12 => 12  | 21 => 21  | 22 => 40   | 24 => 85    | 27 => 73  | 28 => 95    | 31 => 94       | 37 => 96    | 40 => 58  | 41 => 78      | 46 => 67  | 47 => 93     | 51 => 108  | 52 => 107  | 53 => 110  | 54 => 109  | 55 => 70                | 70 => 111  | 72 => 113   | 75 => 115  | 76 => 116  | 77 => 117    | 80 => 69  | 81 => 140                      | 103 => 42  | 104 => 37  | 105 => 56  | 106 => 57  | 107 => 133                     | 127 => 126     | 131 => 105                              | 164 => 130  | 165 => 131                  | 182 => 100  | 183 => 101                               | 218 => 118  | 219 => 119  | 220 => 120   | 222 => 122       | 228 => 127  | 229 => 83          | 245 => 143  | n => n, fun | n => n⟩
theorem laysCo : Go.Proofs.Lays.n106 Tryd.prog renCo := {
  mixed := by kernel_rfl
  f106 := Tryd.func51.trans (congrArg some (by kernel_rfl))
  f213 := Tryd.func68.trans (congrArg some (by kernel_rfl))
  f265 := Tryd.func87.trans (congrArg some (by kernel_rfl))
  t3 := Tryd.underlying3
  a3 := Tryd.isAgg3
  z3 := Tryd.sizeOf3
  v3 := Tryd.zeroValue3
  t9 := Tryd.underlying9
  a9 := Tryd.isAgg9
  z9 := Tryd.sizeOf9
  v9 := Tryd.zeroValue9 }
theorem compare_any (a b : ByteArray) (w : World) : Calls Tryd.prog 51 #[.string a, .string b] w fun e w' => e = .returned (.int .i64 (Lib.compareBytes a.data.toList b.data.toList)) ∧ w' = w := Any.strings_Compare laysCo a b w
end Go.Proofs.YtkmcnkfmlkdeeaaDoor
