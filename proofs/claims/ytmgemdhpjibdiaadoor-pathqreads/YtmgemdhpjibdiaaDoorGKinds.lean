/- The walks of glyph.Char, Start, Part and of the document's own Char, Start, Part: each tells the plain function's answer; nothing that was there is written. -/
import Derived.Test.YtmgemdhpjibdiaaDoorGWithin
namespace Go.Proofs.YtmgemdhpjibdiaaDoor
open Go.RowKit

theorem ret_bool {a b : Bool} (h : a = b) : Ending.returned (.bool a) = .returned (.bool b) := by rw [h]

set_option maxHeartbeats 400000 in
theorem char_any (c : Int) (w : World) (ht : Tab w) :
    Calls Tryd.prog 111 #[.int .i32 c] w fun e w' => e = .returned (.bool (G.charB c)) ∧ Below w.heap.size w w' := by
  have Ht : Hid (Tab w) := ht
  clear ht
  go_enter Tryd.func111, Tryd.ntmps111
  go_wp2_with fail
  refine (within_any _ _ _ Ht.out).mono ?_
  rintro e w1 ⟨rfl, hb⟩
  go_wp2
  go_ret
  exact ⟨ret_bool (G.within0 c), hb⟩

set_option maxHeartbeats 400000 in
theorem start_any (c : Int) (w : World) (ht : Tab w) :
    Calls Tryd.prog 80 #[.int .i32 c] w fun e w' => e = .returned (.bool (G.startB c)) ∧ Below w.heap.size w w' := by
  have Ht : Hid (Tab w) := ht
  clear ht
  go_enter Tryd.func80, Tryd.ntmps80
  go_wp2_with fail
  refine (within_any _ _ _ Ht.out).mono ?_
  rintro e w1 ⟨rfl, hb⟩
  go_wp2
  go_ret
  exact ⟨ret_bool (G.within1 c), hb⟩

set_option maxHeartbeats 400000 in
theorem part_any (c : Int) (w : World) (ht : Tab w) :
    Calls Tryd.prog 81 #[.int .i32 c] w fun e w' => e = .returned (.bool (G.partB c)) ∧ Below w.heap.size w w' := by
  have Ht : Hid (Tab w) := ht
  clear ht
  have E : Hid ((G.withinB c 1 || G.withinB c 2) = G.partB c) := G.within2 c
  go_enter Tryd.func81, Tryd.ntmps81
  go_wp2_with fail
  refine (within_any _ _ _ Ht.out).mono ?_
  rintro e w1 ⟨rfl, hb⟩
  cases h1 : G.withinB c 1
  · have E1 : Hid (G.withinB c 2 = G.partB c) := by have := E.out; rw [h1] at this; exact this
    clear h1 E
    go_wp2_with fail
    refine (within_any _ _ _ (Ht.out.below hb)).mono ?_
    rintro e w2 ⟨rfl, hb2⟩
    go_wp2
    go_ret
    exact ⟨ret_bool E1.out, hb.trans (hb2.mono hb.size)⟩
  · have E1 : Hid (true = G.partB c) := by have := E.out; rw [h1] at this; exact this
    clear h1 E
    go_wp2_with fail
    go_ret
    exact ⟨ret_bool E1.out, hb⟩

set_option maxHeartbeats 1000000 in
theorem rchar_any (c : Int) (w : World) :
    Calls Tryd.prog 144 #[.int .i32 c] w fun e w' => e = .returned (.bool (G.charB c)) ∧ w' = w := by
  go_enter Tryd.func144, Tryd.ntmps144
  go_wp2
  all_goals
    go_ret
    refine ⟨ret_bool ?_, rfl⟩
    rw [Bool.eq_iff_iff]
    simp [G.charB]
    try simp only [beq_iff_eq, beq_eq_false_iff_ne, ne_eq] at *
    try omega

end Go.Proofs.YtmgemdhpjibdiaaDoor
