/- The walk of the laws' alive: it answers true. -/
import Derived.Test.YtafjffnijonglaaGreatDoorLAll
namespace Go.Proofs.YtafjffnijonglaaGreatDoor
open Go.RowKit Go.Shelf
theorem att_form {base : Nat} {v : Value} {l : List L.Attr} {w : World} (h : w.ownsRow base 67 2 v l.length (encL l)) (hl : l ≠ []) : ∃ g cap, v = .slice (some ⟨g, 0, none⟩) l.length cap ∧ g < w.heap.size := by
  rcases h.2 with ⟨_, h0⟩ | ⟨g, cap, cur, rfl, hb, hg, _⟩
  · exact absurd (List.length_eq_zero_iff.1 h0) hl
  · exact ⟨g, cap, rfl, lt_of_block hg⟩

end Go.Proofs.YtafjffnijonglaaGreatDoor
