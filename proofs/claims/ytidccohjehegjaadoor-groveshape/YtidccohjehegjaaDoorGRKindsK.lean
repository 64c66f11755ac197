/- The walks of the document's own Start and Part: each tells the plain function's answer and writes nothing. -/
import Derived.Test.YtidccohjehegjaaDoorK3
namespace Go.Proofs.YtidccohjehegjaaDoor
open Go.RowKit

set_option maxHeartbeats 4000000 in
theorem rstart_any (c : Int) (w : World) :
    Calls Tryd.prog 82 #[.int .i32 c] w fun e w' => e = .returned (.bool (G.startB c)) ∧ w' = w := by
  go_enter Tryd.func82, Tryd.ntmps82
  go_wp2
  all_goals
    go_ret
    refine ⟨ret_bool ?_, rfl⟩
    rw [Bool.eq_iff_iff]
    simp [G.startB]
    try simp only [beq_iff_eq, beq_eq_false_iff_ne, ne_eq] at *
    try omega

set_option maxHeartbeats 1000000 in
theorem rpart_any (c : Int) (w : World) :
    Calls Tryd.prog 83 #[.int .i32 c] w fun e w' => e = .returned (.bool (G.partB c)) ∧ w' = w := by
  go_enter Tryd.func83, Tryd.ntmps83
  go_wp2_with fail
  refine (rstart_any _ _).mono ?_
  rintro e w1 ⟨rfl, rfl⟩
  have E : Hid (G.partB c = (G.startB c || decide (c = 45 ∨ c = 46 ∨ (48 ≤ c ∧ c ≤ 57) ∨ c = 183 ∨ (768 ≤ c ∧ c ≤ 879) ∨ c = 8255 ∨ c = 8256))) := rfl
  generalize G.startB c = s at E ⊢
  cases s
  all_goals
    go_wp2
  all_goals
    go_ret
    refine ⟨ret_bool ?_, rfl⟩
    rw [E.out, Bool.eq_iff_iff]
    simp
    try simp only [beq_iff_eq, beq_eq_false_iff_ne, ne_eq] at *
    try omega
end Go.Proofs.YtidccohjehegjaaDoor
