/- The walks of escape.reference, referred and undone: the reference that a text begins with; what its first thing stands for. -/
import Derived.Test.YtmnegpdegfianaaDoorERef
import Derived.Test.YtmnegpdegfianaaDoorERefPlain
namespace Go.Proofs.YtmnegpdegfianaaDoor
open Go.RowKit
theorem take_eq' (r : ByteArray) (n : Nat) : (r.extract 0 n).data.toList = r.data.toList.take n := by
  rw [Lib.extract_data]; simp
theorem ret_sie {a b : ByteArray} {n m e f : Int} (h : a = b) (k : n = m) (j : e = f) : Ending.returned (.tuple #[.string a, .int .i64 n, .int .i64 e]) = .returned (.tuple #[.string b, .int .i64 m, .int .i64 f]) := by rw [h, k, j]
theorem tri_eq {x : List UInt8 × Nat × Int} {r : ByteArray} {l : List UInt8} {n k : Nat} {e f : Int} (a : x = (r.data.toList, k, e)) (b : x = (l, n, f)) : r.data.toList = l ∧ n = k ∧ f = e := by
  have := b.symm.trans a
  simp only [Prod.mk.injEq] at this
  exact ⟨this.1.symm, this.2.1, this.2.2⟩

end Go.Proofs.YtmnegpdegfianaaDoor
