/- The library's contracts at this program: slices.Index, slices.Delete, slices.Insert at []int: each is one application of a contract that the library has proved over any program; here its bodies' and types' numbers are laid. -/
import Derived.Shelf.Slices.Turned
import Derived.Shelf.Slices.Delete
import Derived.Shelf.Spec.SlicesInsertGrow
import Derived.Test.YtidccohjehegjaaDoorRows
namespace Go.Proofs.YtidccohjehegjaaDoor
open Go.Shelf Go.RowKit

def renIx : Go.Shelf.Ren := ⟨fun | 108 => 56 | n => n, fun | 0 => 0 | 3 => 3 | 4 => 4 | 28 => 36 | 1 => 1  | 2 => 2  | 5 => 5  | 9 => 9  | 12 => 12  | 19 => 19  | 21 => 21    | 24 => 118    | 27 => 96   | 30 => 89     | 34 => 50  | 35 => 113   | 37 => 120    | 40 => 93       | 46 => 106      | 51 => 128                      | 73 => 74       | 80 => 122  | 81 => 34                      | 103 => 94  | 104 => 75  | 105 => 91  | 106 => 92      | 111 => 67  | 112 => 88   | 114 => 86              | 127 => 132     | 131 => 43                              | 164 => 137                                                                      | 245 => 131  | n => n, fun | n => n⟩
theorem laysIx : Go.Proofs.Lays.n108 Tryd.prog renIx := {
  mixed := by kernel_rfl
  f108 := Tryd.func56.trans (congrArg some (by kernel_rfl))
  t0 := Tryd.underlying0
  a0 := Tryd.isAgg0
  z0 := Tryd.sizeOf0
  v0 := Tryd.zeroValue0
  t3 := Tryd.underlying3
  a3 := Tryd.isAgg3
  z3 := Tryd.sizeOf3
  v3 := Tryd.zeroValue3
  t4 := Tryd.underlying4
  a4 := Tryd.isAgg4
  z4 := Tryd.sizeOf4
  v4 := Tryd.zeroValue4
  t28 := Tryd.underlying36
  a28 := Tryd.isAgg36
  z28 := Tryd.sizeOf36
  v28 := Tryd.zeroValue36 }
def renDe : Go.Shelf.Ren := ⟨fun | 23 => 57 | n => n, fun | 0 => 0 | 3 => 3 | 4 => 4 | 22 => 36 | 1 => 1  | 2 => 2  | 5 => 5  | 9 => 9  | 12 => 12  | 19 => 19  | 21 => 21       | 28 => 72  | 29 => 90     | 33 => 43    | 36 => 50  | 37 => 87    | 40 => 106  | 41 => 88  | 42 => 67   | 44 => 75  | 45 => 113  | 46 => 122  | 52 => 34  | 53 => 128  | 56 => 131  | 57 => 132  | 62 => 137  | n => n, fun | n => n⟩
theorem laysDe : Go.Proofs.Lays2.n23 Tryd.prog renDe := {
  mixed := by kernel_rfl
  f23 := Tryd.func57.trans (congrArg some (by kernel_rfl))
  t0 := Tryd.underlying0
  a0 := Tryd.isAgg0
  z0 := Tryd.sizeOf0
  v0 := Tryd.zeroValue0
  t3 := Tryd.underlying3
  a3 := Tryd.isAgg3
  z3 := Tryd.sizeOf3
  v3 := Tryd.zeroValue3
  t4 := Tryd.underlying4
  a4 := Tryd.isAgg4
  z4 := Tryd.sizeOf4
  v4 := Tryd.zeroValue4
  t22 := Tryd.underlying36
  a22 := Tryd.isAgg36
  z22 := Tryd.sizeOf36
  v22 := Tryd.zeroValue36
  i3 := by kernel_rfl }
def renIn : Go.Shelf.Ren := ⟨fun | 21 => 37 | 27 => 52 | 28 => 53 | 35 => 74 | 39 => 86 | n => n, fun | 0 => 0 | 3 => 3 | 4 => 4 | 22 => 36 | 1 => 1  | 2 => 2  | 5 => 5  | 9 => 9  | 12 => 12  | 19 => 19  | 21 => 21       | 28 => 72  | 29 => 90     | 33 => 43    | 36 => 50  | 37 => 87    | 40 => 106  | 41 => 88  | 42 => 67   | 44 => 75  | 45 => 113  | 46 => 122  | 52 => 34  | 53 => 128  | 56 => 131  | 57 => 132  | 62 => 137  | n => n, fun | n => n⟩
theorem laysIn : Go.Proofs.Lays2.n21 Tryd.prog renIn := {
  mixed := by kernel_rfl
  f21 := Tryd.func37.trans (congrArg some (by kernel_rfl))
  f27 := Tryd.func52.trans (congrArg some (by kernel_rfl))
  f28 := Tryd.func53.trans (congrArg some (by kernel_rfl))
  f35 := Tryd.func74.trans (congrArg some (by kernel_rfl))
  f39 := Tryd.func86.trans (congrArg some (by kernel_rfl))
  t0 := Tryd.underlying0
  a0 := Tryd.isAgg0
  z0 := Tryd.sizeOf0
  v0 := Tryd.zeroValue0
  t3 := Tryd.underlying3
  a3 := Tryd.isAgg3
  z3 := Tryd.sizeOf3
  v3 := Tryd.zeroValue3
  t4 := Tryd.underlying4
  a4 := Tryd.isAgg4
  z4 := Tryd.sizeOf4
  v4 := Tryd.zeroValue4
  t22 := Tryd.underlying36
  a22 := Tryd.isAgg36
  z22 := Tryd.sizeOf36
  v22 := Tryd.zeroValue36
  i3 := by kernel_rfl }
end Go.Proofs.YtidccohjehegjaaDoor
