/- The walk of glyph.within: over the table of ranges as the program's text lays it, the call tells whether a row of the use holds the number; nothing that was there is written. -/
import Derived.Test.YtmgemdhpjibdiaaDoorRows
import Derived.Test.YtmgemdhpjibdiaaDoorGPlain
import Derived.WalkKit
import Derived.WalkSpells
import Derived.WalkLawsBesides
namespace Go.Proofs.YtmgemdhpjibdiaaDoor
open Go.RowKit

/-- The table of ranges lies in the package variable's block, cell by cell. -/
structure Tab (w : World) : Prop where
  pos : 2 < w.heap.size
  use : ∀ k, k < 25 → w.cell? ⟨2, k * 3, none⟩ = some (.int .i64 (G.useAt k))
  low : ∀ k, k < 25 → w.cell? ⟨2, k * 3 + 1, none⟩ = some (.int .i32 (G.lowAt k))
  high : ∀ k, k < 25 → w.cell? ⟨2, k * 3 + 2, none⟩ = some (.int .i32 (G.highAt k))
theorem Tab.below {w w' : World} (h : Tab w) (b : Below w.heap.size w w') : Tab w' :=
  ⟨Nat.lt_of_lt_of_le h.pos b.size, fun k hk => (b.cell h.pos).trans (h.use k hk), fun k hk => (b.cell h.pos).trans (h.low k hk), fun k hk => (b.cell h.pos).trans (h.high k hk)⟩

set_option maxHeartbeats 400000 in
theorem within_any (c u : Int) (w : World) (ht : Tab w) :
    Calls Tryd.prog 112 #[.int .i32 c, .int .i64 u] w fun e w' => e = .returned (.bool (G.withinB c u)) ∧ Below w.heap.size w w' := by
  have Ht : Hid (Tab w) := ht
  clear ht
  go_enter Tryd.func112, Tryd.ntmps112
  go_wp2
  go_loopw [7] (fun i W => ∃ k : Nat, k ≤ 25 ∧ i = .int .i64 k ∧ G.anyTo c u k = false ∧ Below w.heap.size w W) (fun i _ => 25 - (intOf i).toNat)
  case atStart => exact ⟨0, by omega, rfl, rfl, Below.refl _ _⟩
  case round =>
    obtain ⟨k, hk, rfl, hn, hb⟩ := hrel
    have HN : Hid (G.anyTo c u k = false) := hn
    clear hn
    by_cases hlt : k < 25
    · have t := Ht.out.below hb
      have c0 := t.use k hlt
      have c1 := t.low k hlt
      have c2 := t.high k hlt
      clear t
      have hs := hb.size
      go_wp2
      · go_ret
        exact ⟨congrArg (fun b => Ending.returned (.bool b)) (G.within_hit c u k hlt ‹_› ‹_› ‹_›).symm, hb.alloc hs _⟩
      all_goals
        go_roundw
        case rel => exact ⟨k + 1, by omega, by go_num, G.any_miss c u k HN.out (by omega), hb.alloc hs _⟩
        case measure => simp [intOf]; omega
    · have e : k = 25 := by omega
      subst e
      have HN' : Hid (G.withinB c u = false) := HN.out
      clear HN
      go_wp2
      go_ret
      exact ⟨congrArg (fun b => Ending.returned (.bool b)) HN'.out.symm, hb⟩
end Go.Proofs.YtmgemdhpjibdiaaDoor
