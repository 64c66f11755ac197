/- The walk of the laws' own alive(): the escapes that the document fixes are answered as it says. -/
import Derived.Test.YtpkcgahgjdghaaaDoorEUndo
namespace Go.Proofs.YtpkcgahgjdghaaaDoor
open Go.RowKit
set_option maxRecDepth 100000 in
set_option maxHeartbeats 400000 in
theorem alive2_any (w : World) (ht : Tab w) :
    Calls Tryd.prog 10 #[] w fun e w' => e = .returned (.bool true) ∧ Below w.heap.size w w' := by
  have Ht : Hid (Tab w) := ht
  clear ht
  go_enter Tryd.func10, Tryd.ntmps10
  go_wp2_with fail
  refine (text_any ⟨#[97, 60, 98]⟩ ⟨#[97, 38, 108, 116, 59, 98]⟩ true _ Ht.out (by decide) (by show _ ∧ _; decide +kernel)).mono ?_
  rintro e w1 ⟨rfl, hb1⟩
  go_wp2_with fail
  refine (undo_any ⟨#[38, 35, 120, 52, 49, 59, 38, 97, 109, 112, 59]⟩ false ⟨#[65, 38]⟩ 11 0 _ (Ht.out.below hb1) (by decide) (by show _ = _; decide +kernel)).mono ?_
  rintro e w2 ⟨rfl, hb2⟩
  have hb3 : Below w.heap.size w w2 := hb1.trans (hb2.mono hb1.size)
  clear hb1 hb2
  go_wp2_with fail
  refine (undo_any ⟨#[97, 38, 98, 59]⟩ false ⟨#[]⟩ 1 20 _ (Ht.out.below hb3) (by decide) (by show _ = _; decide +kernel)).mono ?_
  rintro e w3 ⟨rfl, hb4⟩
  have hb5 : Below w.heap.size w w3 := hb3.trans (hb4.mono hb3.size)
  clear hb3 hb4
  go_wp2
  go_ret
  exact ⟨rfl, hb5⟩
end Go.Proofs.YtpkcgahgjdghaaaDoor
