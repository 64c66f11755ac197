/- The walk of escape.reference, which leads on by goto: it tells the reference that a text, whose first byte is &, begins with. Nothing is written. -/
import Derived.Test.YtmnegpdegfianaaDoorEWalk
import Derived.Test.YtmnegpdegfianaaDoorEScope
import Derived.Test.YtmnegpdegfianaaDoorEShelf
import Derived.WalkMore
namespace Go.Proofs.YtmnegpdegfianaaDoor
open Go.RowKit
theorem hid {p : Prop} (h : p) : Hid p := h
theorem ret_ri {a b : Int} {n m : Int} (h : a = b) (k : n = m) : Ending.returned (.tuple #[.int .i32 a, .int .i64 n]) = .returned (.tuple #[.int .i32 b, .int .i64 m]) := by rw [h, k]

end Go.Proofs.YtmnegpdegfianaaDoor
