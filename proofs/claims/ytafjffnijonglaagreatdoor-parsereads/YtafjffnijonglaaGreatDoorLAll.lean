/- The walk of lexis.All: all tokens are told as the plain function says, in a row of the call's own. -/
import Derived.Test.YtafjffnijonglaaGreatDoorLOneE
import Derived.Test.YtafjffnijonglaaGreatDoorLOneB
import Derived.Test.YtafjffnijonglaaGreatDoorLFacts3
namespace Go.Proofs.YtafjffnijonglaaGreatDoor
open Go.RowKit Go.Shelf
theorem one_any (s : ByteArray) (z : Int) (w : World) (ht : Tab w) (hz : s.size ≤ 140737488351232) : Calls Tryz.prog 11 #[.string s, .int .i64 z] w (OnePost w (L.oneP s z)) := by
  by_cases h : z < 0 ∨ (s.size : Int) ≤ z
  · exact one_out s z w h
  · obtain ⟨i, rfl⟩ : ∃ i : Nat, z = (i : Int) := ⟨z.toNat, by omega⟩
    have hi : i < s.size := by omega
    have e : L.oneP s (i : Int) = L.oneN s i := by unfold L.oneP; rw [if_neg h]; simp
    rw [e]
    unfold L.oneN
    cases h1 : L.thereB s i [60, 47] with
    | true => rw [if_pos rfl]; exact one_end s i w ht hi hz (hid h1)
    | false =>
      rw [if_neg (by simp)]
      cases h2 : L.thereB s i [60] with
      | true => rw [if_pos rfl]; exact one_beg s i w ht hi hz (hid h1) (hid h2)
      | false => rw [if_neg (by simp)]; exact one_txt s i w ht hi hz (hid h1) (hid h2)
theorem oneP_nat {s : ByteArray} {i : Nat} (hi : i < s.size) : L.oneP s (i : Int) = L.oneN s i := by
  unfold L.oneP
  rw [if_neg (by omega)]
  simp
/-- Rows of elements of two types are two. -/
theorem rows_two {base base' : Nat} {e e' : TypeId} {size size' : Nat} {v v' : Value} {n n' : Nat} {xs xs' : List Value} {w : World} (h : w.ownsRow base e size v n xs) (h' : w.ownsRow base' e' size' v' n' xs') (ne : e ≠ e') : v.ownBlock = none ∨ v.ownBlock ≠ v'.ownBlock := by
  rcases h.2 with ⟨rfl, _⟩ | ⟨g, cap, cur, rfl, _, hg, _⟩
  · exact Or.inl rfl
  · right
    intro q
    rcases h'.2 with ⟨rfl, _⟩ | ⟨g', cap', cur', rfl, _, hg', _⟩
    · cases q
    · have : g = g' := by simpa [Value.ownBlock] using q
      subst this
      rw [hg] at hg'
      simp only [Option.some.injEq, Obj.cells.injEq] at hg'
      exact ne hg'.2.1

end Go.Proofs.YtafjffnijonglaaGreatDoor
