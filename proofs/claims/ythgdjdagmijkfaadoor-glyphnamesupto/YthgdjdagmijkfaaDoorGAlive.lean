/- The walk of the laws' own alive(): the characters that the document fixes are answered as it says. -/
import Derived.Test.YthgdjdagmijkfaaDoorGCount
namespace Go.Proofs.YthgdjdagmijkfaaDoor
open Go.RowKit
theorem alive_put : strOfNums (G.putN 8364) = ⟨#[226, 130, 172]⟩ := by rfl
set_option maxRecDepth 100000 in
set_option maxHeartbeats 400000 in
theorem alive_any (w : World) (ht : Tab w) :
    Calls Tryd.prog 11 #[] w fun e w' => e = .returned (.bool true) ∧ Below w.heap.size w w' := by
  have Ht : Hid (Tab w) := ht
  clear ht
  go_enter Tryd.func11, Tryd.ntmps11
  go_wp2_with fail
  refine (put_yes _ _ Ht.out (by decide)).mono ?_
  rintro e w1 ⟨rfl, hb1⟩
  rw [alive_put]
  go_wp2_with fail
  refine (next_any ⟨#[195, 169, 120]⟩ 233 2 _ (Ht.out.below hb1) (by decide) (by show _ = _; decide +kernel)).mono ?_
  rintro e w2 ⟨rfl, hb2⟩
  have hb3 : Below w.heap.size w w2 := hb1.trans (hb2.mono hb1.size)
  clear hb1 hb2
  go_wp2_with fail
  refine (name_any ⟨#[97, 45, 49]⟩ true _ (Ht.out.below hb3) (by decide) (by show _ = _; decide +kernel)).mono ?_
  rintro e w3 ⟨rfl, hb4⟩
  have hb5 : Below w.heap.size w w3 := hb3.trans (hb4.mono hb3.size)
  clear hb3 hb4
  go_wp2_with fail
  refine (name_any ⟨#[45, 97]⟩ false _ (Ht.out.below hb5) (by decide) (by show _ = _; decide +kernel)).mono ?_
  rintro e w4 ⟨rfl, hb6⟩
  have hb7 : Below w.heap.size w w4 := hb5.trans (hb6.mono hb5.size)
  clear hb5 hb6
  go_wp2
  go_ret
  exact ⟨rfl, hb7⟩
end Go.Proofs.YthgdjdagmijkfaaDoor
