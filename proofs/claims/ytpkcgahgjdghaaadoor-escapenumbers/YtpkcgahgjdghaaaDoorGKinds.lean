/- The walks of glyph.Char, Start, Part and of the document's own Char, Start, Part: each tells the plain function's answer; nothing that was there is written. -/
import Derived.Test.YtpkcgahgjdghaaaDoorGWithin
namespace Go.Proofs.YtpkcgahgjdghaaaDoor
open Go.RowKit

theorem ret_bool {a b : Bool} (h : a = b) : Ending.returned (.bool a) = .returned (.bool b) := by rw [h]

set_option maxHeartbeats 400000 in
theorem char_any (c : Int) (w : World) (ht : Tab w) :
    Calls Tryd.prog 28 #[.int .i32 c] w fun e w' => e = .returned (.bool (G.charB c)) ∧ Below w.heap.size w w' := by
  have Ht : Hid (Tab w) := ht
  clear ht
  go_enter Tryd.func28, Tryd.ntmps28
  go_wp2_with fail
  refine (within_any _ _ _ Ht.out).mono ?_
  rintro e w1 ⟨rfl, hb⟩
  go_wp2
  go_ret
  exact ⟨ret_bool (G.within0 c), hb⟩


set_option maxHeartbeats 1000000 in
theorem rchar_any (c : Int) (w : World) :
    Calls Tryd.prog 36 #[.int .i32 c] w fun e w' => e = .returned (.bool (G.charB c)) ∧ w' = w := by
  go_enter Tryd.func36, Tryd.ntmps36
  go_wp2
  all_goals
    go_ret
    refine ⟨ret_bool ?_, rfl⟩
    rw [Bool.eq_iff_iff]
    simp [G.charB]
    try simp only [beq_iff_eq, beq_eq_false_iff_ne, ne_eq] at *
    try omega
end Go.Proofs.YtpkcgahgjdghaaaDoor
