/- The walk of glyph.lay: it lays the first number's lowest byte, and of each further number a byte of its lowest six bits; nothing that was there is written. -/
import Derived.Test.YtmnegpdegfianaaDoorGBits
import Derived.Test.YtmnegpdegfianaaDoorRows
import Derived.Laws.BytesArg
import Derived.WalkSpells
import Derived.WalkLawsBesides
namespace Go.Proofs.YtmnegpdegfianaaDoor
open Go.RowKit
theorem info_u8 : (Tryd.prog.info? 5).map (fun i => (i.zero, i.size, i.bytes)) = some (some (.int .u8 0), 1, 1) := by kernel_rfl
namespace G
def layTo (f : Int) (xs : List Int) (k : Nat) : List Int := (f % 256) :: (xs.take k).map (fun r => 128 + r % 64)
theorem layTo_len (f : Int) (xs : List Int) (k : Nat) (h : k ≤ xs.length) : (layTo f xs k).length = k + 1 := by simp [layTo]; omega
theorem layTo_succ (f : Int) (xs : List Int) (k : Nat) (h : k < xs.length) : layTo f xs (k + 1) = layTo f xs k ++ [128 + xs[k] % 64] := by
  unfold layTo
  rw [List.take_succ_eq_append_getElem h]
  simp only [List.map_append, List.map_cons, List.map_nil, List.cons_append]
theorem lay_end {w : World} {base : Nat} {v : Value} {n : Nat} {xs : List Int} (h : w.ownsRow base 5 1 v (n + 1) (xs.map (Value.int .u8))) :
    (convert 56 9 v).run Tryd.prog w = .ok (.string (strOfNums xs)) w := by
  obtain ⟨hl, ⟨_, h0⟩ | ⟨g, cap, cur, rfl, _, hg, hle, hm, hcur, ht⟩⟩ := h
  · omega
  · have hxl : xs.length = n + 1 := by simpa using hl
    refine run_convert_bytes_arg w 56 5 Tryd.underlying56 Tryd.underlying5 g 0 (n + 1) cap xs hxl ?_ 9 Tryd.underlying9
    intro i hi
    rw [cell_of_row w g (0 + i) cur _ _ hg]
    have := congrArg (fun l : List Value => l[i]?) ht
    simp [hi] at this
    rw [List.getElem?_eq_getElem (by omega)] at this
    simpa [List.getD, List.getElem?_eq_getElem (show i < xs.length by omega)] using this
end G

end Go.Proofs.YtmnegpdegfianaaDoor
