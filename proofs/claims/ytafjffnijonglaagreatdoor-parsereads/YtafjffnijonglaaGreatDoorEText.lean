/- The walks of escape.escaped, Text and Value: a text is written as the plain function says, in a builder of the call's own; nothing that was there is written. -/
import Derived.Test.YtafjffnijonglaaGreatDoorEUndone
import Derived.Lib.OthersKept
namespace Go.Proofs.YtafjffnijonglaaGreatDoor
open Go.RowKit
theorem lt_of_block {w : World} {k : Nat} {o : Obj} (h : w.heap[k]? = some o) : k < w.heap.size := by
  rcases Nat.lt_or_ge k w.heap.size with q | q
  · exact q
  · simp [Array.getElem?_eq_none q] at h
theorem bldAt_below {T e : TypeId} {B b : Nat} {p : Value} {bs : List Value} {w w' : World} (h : Lib.BuilderAtF T e B b p bs w) (hb : Below w.heap.size w w') : Lib.BuilderAtF T e B b p bs w' := by
  obtain ⟨hB, v, hbk, ⟨hl, hown⟩, hne⟩ := h
  refine ⟨hB, v, (hb.block b (lt_of_block hbk)).trans hbk, ⟨hl, ?_⟩, hne⟩
  rcases hown with q | ⟨g, cap, cur, fz, hv, hg, hh, rest⟩
  · exact .inl q
  · exact .inr ⟨g, cap, cur, fz, hv, hg, (hb.block g (lt_of_block hh)).trans hh, rest⟩
theorem bld_below {T e : TypeId} {B b : Nat} {bs : List Value} {w w' : World} (h : Lib.IsBuilderF T e B b bs w) (hb : Below w.heap.size w w') : Lib.IsBuilderF T e B b bs w' :=
  h.elim (fun x => .inl (bldAt_below x hb)) (fun x => .inr (bldAt_below x hb))
theorem ret_sb' {s t : ByteArray} {a b : Bool} (h : s = t) (k : a = b) : Ending.returned (.tuple #[.string s, .bool a]) = .returned (.tuple #[.string t, .bool b]) := by rw [h, k]

end Go.Proofs.YtafjffnijonglaaGreatDoor
