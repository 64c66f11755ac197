/- PROVED: for every number of the type rune, GlyphOrder returns true, and the number reads afterwards as it read before. Its condition: the table of ranges reads when the call begins as the program's own text lays it (the card ties that). -/
import Derived.Test.YthgdjdagmijkfaaDoorGAlive
import Derived.Test.YthgdjdagmijkfaaDoorGLaid
import Derived.Test.YthgdjdagmijkfaaDoorTie
import Derived.Test.YthgdjdagmijkfaaDoorCards
import Derived.SevenTiedAt
namespace Go.Proofs.YthgdjdagmijkfaaDoor
open Go.ChangeShapes Go.WideShapes Go.ChangeAt Go.RowKit
namespace Order

set_option maxRecDepth 100000 in
set_option maxHeartbeats 400000 in
theorem walk (c : Int) (w : World) (ht : Tab w) :
    Calls Tryd.prog 8 #[.int .i32 c] w fun e w' => e = .returned (.bool true) ∧ Below w.heap.size w w' := by
  have Ht : Hid (Tab w) := ht
  clear ht
  have P1 := G.start_part c
  have P2 := G.part_char c
  have Q1 : Hid (G.startB c = true → G.partB c = true) := P1
  have Q2 : Hid (G.partB c = true → G.charB c = true) := P2
  clear P1 P2
  go_enter Tryd.func8, Tryd.ntmps8
  go_wp2_with fail
  refine (alive_any _ Ht.out).mono ?_
  rintro e w1 ⟨rfl, hb1⟩
  go_wp2_with fail
  refine (start_any _ _ (Ht.out.below hb1)).mono ?_
  rintro e w2 ⟨rfl, hb2⟩
  have hb3 : Below w.heap.size w w2 := hb1.trans (hb2.mono hb1.size)
  clear hb1 hb2
  generalize hx : G.startB c = x at Q1 ⊢
  generalize hy : G.partB c = y at Q1 Q2
  generalize hz : G.charB c = z at Q2
  have HY : Hid (G.partB c = y) := hy
  have HZ : Hid (G.charB c = z) := hz
  clear hx hy hz
  cases x
  · clear Q1
    go_wp2_with fail
    refine (part_any _ _ (Ht.out.below hb3)).mono ?_
    rintro e w3 ⟨rfl, hb4⟩
    have hb5 : Below w.heap.size w w3 := hb3.trans (hb4.mono hb3.size)
    clear hb3 hb4
    rw [HY.out]
    cases y
    · go_wp2
      go_ret
      exact ⟨rfl, hb5⟩
    · obtain rfl := Q2.out rfl
      go_wp2_with fail
      refine (char_any _ _ (Ht.out.below hb5)).mono ?_
      rintro e w4 ⟨rfl, hb6⟩
      rw [HZ.out]
      go_wp2
      go_ret
      exact ⟨rfl, hb5.trans (hb6.mono hb5.size)⟩
  · obtain rfl := Q1.out rfl
    obtain rfl := Q2.out rfl
    go_wp2_with fail
    refine (part_any _ _ (Ht.out.below hb3)).mono ?_
    rintro e w3 ⟨rfl, hb4⟩
    have hb5 : Below w.heap.size w w3 := hb3.trans (hb4.mono hb3.size)
    clear hb3 hb4
    rw [HY.out]
    go_wp2_with fail
    refine (part_any _ _ (Ht.out.below hb5)).mono ?_
    rintro e w4 ⟨rfl, hb6⟩
    have hb7 : Below w.heap.size w w4 := hb5.trans (hb6.mono hb5.size)
    clear hb5 hb6
    rw [HY.out]
    go_wp2_with fail
    refine (char_any _ _ (Ht.out.below hb7)).mono ?_
    rintro e w5 ⟨rfl, hb8⟩
    rw [HZ.out]
    go_wp2
    go_ret
    exact ⟨rfl, hb7.trans (hb8.mono hb7.size)⟩

set_option maxRecDepth 100000 in
theorem lifted (os : Os) (started : os.Started) (H : Type) (enc : TypeId × Value → H) :
    ReturnsInHanded {} Tryd.checked os 8 .any (fun w args => (Rows.glyphOrderSpec.pre enc Tryd.prog Tryd.f8 [] false w args ∧ laidMetH Tryd.prog laidT w) ∧ sizedMet enc Tryd.prog Tryd.f8 (OpenSpec.ofChange Rows.glyphOrderSpec) false w args)
      (Rows.glyphOrderSpec.post enc Tryd.prog Tryd.f8 false true false false) := by
  refine returnsInHanded_of_change_and (C := Tryd.checked) (X := fun w _ => laidMetH Tryd.prog laidT w) (fun _ _ _ hh h => h.of_heap hh) own started (by kernel_rfl) Tryd.func8
    (ChangeSpec.witness_shaped (enc := enc) (C := Tryd.checked) (os := os) (X := fun w _ => laidMetH Tryd.prog laidT w) false (World.doorLaid Tryd.prog 400 os) #[.int .i32 0] 8 rfl (World.shaped_of_RefB (by kernel_rfl) (by kernel_rfl)) (by kernel_rfl) (by kernel_rfl) (by kernel_rfl) (door_met os _)) ?_
  intro W base args ds gs before hval0 hW _ _ hL _
  have hval : ∀ (j : Nat) t v, Tryd.f8.params[j]? = some t → args[j]? = some v → Value.okWide Tryd.prog W .any base t v := hval0
  have hW' := hW
  obtain ⟨p, q, hA0, hV, rfl, hfz, hnd⟩ := hW
  have hA : DataW.TrodAll enc Tryd.prog W 0 (fun _ => true) true Tryd.f8.params.toList args.toList ds p := hA0
  rw [Tryd.params8] at hA hval
  obtain ⟨v0, d0, rfl, rfl, h0⟩ := trodAll_one hA
  obtain ⟨rfl, rfl⟩ := trodVars_none hV
  obtain ⟨a0, rfl, rfl, rfl, w0⟩ := open_int Tryd.underlying21 (hval 0 21 v0 rfl rfl) h0
  have hT := tab_of hL
  clear hA0 hval0 hL
  simp only [List.append_nil] at hW'
  refine (walk a0 W hT).mono fun e W' ⟨he, hb⟩ => ?_
  subst he
  exact ⟨_, rfl, _, _, _, [], [], [], hW', trodAll_mk1 (shut_bool Tryd.underlying4 _), trodAll_mk1 (shut_int Tryd.underlying21 w0), rfl, hb.frame _, fun h => by cases h⟩

theorem over : Rows.GlyphOrderSaid :=
  OpenClaim.holds_of_wide 8 Tryd.f8 rfl rfl rfl rfl rfl rfl rfl ⟨rfl, rfl, rfl, rfl, rfl⟩ rfl rfl rfl rfl rfl (by kernel_rfl) Tryd.func8 (by kernel_rfl)
    (of_decide_eq_true (by kernel_rfl)) (by unfold Func.isWrapper; first | (rw [if_pos (by decide +kernel)]; kernel_rfl) | (rw [if_neg (by decide +kernel)]; exact ⟨rfl, rfl⟩))
    (fun os started H enc _ => lifted os started H enc)
end Order

theorem glyphOrder_holds : Rows.GlyphOrderCardSaid :=
  Claim7.holds_tied_plain_at .later [] [.data] true (true, "521a9c850b34f84ce7f27a65dd9fc60d8ff554941ad5f7db87e3ce4b6b9d8765") false
    Order.over (fun _ h => by cases h) (by kernel_rfl) (fun _ h => by cases h) glyphOrder_row_tie rfl ⟨rfl, rfl⟩ (by kernel_rfl) rfl
    (fun f fn hf hfn => by
      obtain rfl : f = 8 := Option.some.inj ((show Tryd.prog.funcNamed Rows.glyphOrderRow.func = some 8 by kernel_rfl).symm.trans hf) |>.symm
      obtain rfl : fn = Tryd.f8 := (Option.some.inj (Tryd.func8.symm.trans hfn)).symm
      exact ⟨by kernel_rfl, fun j t ht => by
        rw [Tryd.params8] at ht
        have hm : t ∈ [21] := by simpa using Array.mem_of_getElem? ht
        have hall : ([21].all fun u => !Tryd.prog.wantsStandIn u) = true := by kernel_rfl
        exact (show Tryd.prog.wantsStandIn t = false by simpa using List.all_eq_true.1 hall t hm)⟩)
    (by kernel_rfl)
#print axioms glyphOrder_holds
end Go.Proofs.YthgdjdagmijkfaaDoor
