/- The walks of the document's own begins and number: each tells the plain function's answer; nothing is written. -/
import Derived.Test.YtmnegpdegfianaaDoorERPlain
import Derived.Test.YtmnegpdegfianaaDoorEText
namespace Go.Proofs.YtmnegpdegfianaaDoor
open Go.RowKit

theorem byte_peek (s : ByteArray) (k : Nat) (h : k < s.size) : E.peekV s.data.toList k = (s[k].toNat : Int) := by
  rw [E.peek_lt (by simpa using h), at_eq s k h]

end Go.Proofs.YtmnegpdegfianaaDoor
