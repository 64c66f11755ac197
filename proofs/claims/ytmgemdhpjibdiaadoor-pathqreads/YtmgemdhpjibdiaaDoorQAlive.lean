/- The walk of the laws' alive: it answers true. -/
import Derived.Test.YtmgemdhpjibdiaaDoorQPrint
namespace Go.Proofs.YtmgemdhpjibdiaaDoor
open Go.RowKit Go.Shelf Go.Sort
theorem aliveQ_one : Q.parseP ⟨#[47, 97, 47, 47, 98, 91, 50, 93]⟩ = .ok [⟨1, 1, ⟨#[97]⟩, []⟩, ⟨3, 4, ⟨#[]⟩, []⟩, ⟨1, 1, ⟨#[98]⟩, [⟨1, 2, ⟨#[]⟩, ⟨#[]⟩⟩]⟩] := by kernel_rfl
theorem aliveQ_two : Q.parseP ⟨#[47, 97, 91]⟩ = .error (3, 70) := by kernel_rfl
def stepA : Q.Step := ⟨1, 2, ⟨#[]⟩, []⟩
theorem aliveQ_three : Q.stepsW [stepA] = [47, 99, 104, 105, 108, 100, 58, 58, 42] := by kernel_rfl
theorem aliveQ_right : Q.rightLB [stepA] = true := by decide +kernel
set_option maxRecDepth 100000 in
set_option maxHeartbeats 4000000 in
theorem aliveQ_any (w : World) (ht : TabQ w) : Calls Tryd.prog 21 #[] w fun e w' => e = .returned (.bool true) ∧ Below w.heap.size w w' := by
  have HT := hid ht
  clear ht
  go_enter Tryd.func21, Tryd.ntmps21
  go_wp2_with fail
  refine Calls.mono (qparse_any _ w HT.out _ (hid aliveQ_one)) ?_
  rintro e w1 ⟨hb1, ⟨z, e0, h1, _⟩ | ⟨l, V, h1, rfl, h3⟩⟩
  · cases h1
  · have h4 := steps_in h3
    obtain ⟨⟨t1, v1⟩, l1, rfl⟩ : ∃ x l1, l = x :: l1 := by cases l with | nil => cases h1 | cons x l1 => exact ⟨x, l1, rfl⟩
    obtain ⟨⟨t2, v2⟩, l2, rfl⟩ : ∃ x l2, l1 = x :: l2 := by cases l1 with | nil => cases h1 | cons x l2 => exact ⟨x, l2, rfl⟩
    obtain ⟨⟨t3, v3⟩, l3, rfl⟩ : ∃ x l3, l2 = x :: l3 := by cases l2 with | nil => cases h1 | cons x l3 => exact ⟨x, l3, rfl⟩
    obtain rfl : l3 = [] := by cases l3 with | nil => rfl | cons x l4 => cases h1
    simp only [List.map_cons, List.map_nil, Except.ok.injEq, List.cons.injEq, and_true] at h1
    obtain ⟨rfl, rfl, rfl⟩ := h1
    obtain ⟨ao, cap, rfl, _, hc⟩ := h4.1
    obtain ⟨g, o, rfl, hg, hc⟩ := hc (by simp)
    have hp := h4.2 _ (List.mem_cons_of_mem _ (List.mem_cons_of_mem _ (List.mem_cons_self ..)))
    obtain ⟨ao3, cap3, hv3, _, hp⟩ := hp
    obtain ⟨g3, o3, rfl, hg3, hp⟩ := hp (by simp)
    simp only at hv3
    subst hv3
    have k1 := (hc 1 (by simp)).1
    have k2 := (hc 2 (by simp)).2.2.1
    have k3 := (hc 2 (by simp)).2.2.2
    have k4 := (hp 0 (by simp)).2.1
    simp only [List.getElem_cons_zero, List.getElem_cons_succ, List.length_cons, List.length_nil, Nat.zero_add, Nat.zero_mul, Nat.add_zero, Nat.one_mul] at k1 k2 k3 k4 ⊢
    have HT1 := hid (HT.out.below hb1)
    have HB1 := hid hb1
    clear hb1 h3 h4 hc hp
    go_wp2_with fail
    refine Calls.mono (qparse_any _ w1 HT1.out _ (hid aliveQ_two)) ?_
    rintro e w2 ⟨hb2, ⟨z, e0, h1, _, rfl⟩ | ⟨l, V, h1, _⟩⟩
    · simp only [Except.error.injEq, Prod.mk.injEq] at h1
      obtain ⟨hz, rfl⟩ := h1
      obtain rfl : z = 3 := by omega
      have HT2 := hid (HT1.out.below hb2)
      have HB2 := hid (HB1.out.trans (hb2.mono HB1.out.size))
      have hs2 := hb2.size
      have m1 := (hb2.cell (p := ⟨g, o + 4, none⟩) hg).trans k1
      have m2 := (hb2.cell (p := ⟨g, o + 2 * 4 + 2, none⟩) hg).trans k2
      have m3 := (hb2.cell (p := ⟨g, o + 2 * 4 + 3, none⟩) hg).trans k3
      have m4 := (hb2.cell (p := ⟨g3, o3 + 1, none⟩) hg3).trans k4
      have hg2 : g < w2.heap.size := by omega
      have hg32 : g3 < w2.heap.size := by omega
      clear hb2 k1 k2 k3 k4 hz hg hg3 hs2
      have hb3 : Below w2.heap.size w2 (w2.alloc (stepObj 1 2 ⟨#[]⟩ (.slice none 0 0))) := (Below.refl _ _).alloc (Nat.le_refl _) _
      have I3 : Hid (StepsIn (.slice (some ⟨w2.heap.size, 0, none⟩) 1 1) [(stepA, .slice none 0 0)] (w2.alloc (stepObj 1 2 ⟨#[]⟩ (.slice none 0 0)))) := hid (by
        have q := heap_alloc_new w2 (stepObj 1 2 ⟨#[]⟩ (.slice none 0 0))
        refine ⟨⟨_, 1, rfl, by simp, fun _ => ⟨w2.heap.size, 0, rfl, by simp, fun j hj => ?_⟩⟩, fun x hx => ?_⟩
        · obtain rfl : j = 0 := by simp at hj; exact hj
          simpa [stepA] using step_cells q
        · simp only [List.mem_singleton] at hx
          subst hx
          exact ⟨none, 0, rfl, by simp [stepA], fun h => absurd rfl h⟩)
      have F3 : Hid (∀ x ∈ [(stepA, Value.slice none 0 0)], FitS 1048576 x.1) := hid (fun x hx => by
        simp only [List.mem_singleton] at hx
        subst hx
        exact ⟨by decide, fun p hp => by cases hp⟩)
      go_wp2_with fail
      refine Calls.mono (print_any _ _ _ (HT2.out.below hb3) I3 F3 true (hid aliveQ_right) ⟨#[47, 99, 104, 105, 108, 100, 58, 58, 42]⟩ (hid fun _ => aliveQ_three)) ?_
      rintro e w3 ⟨rfl, hb4⟩
      have hb5 := hb3.trans (hb4.mono hb3.size)
      have n1 := (hb5.cell (p := ⟨g, o + 4, none⟩) hg2).trans m1
      have n2 := (hb5.cell (p := ⟨g, o + 2 * 4 + 2, none⟩) hg2).trans m2
      have n3 := (hb5.cell (p := ⟨g, o + 2 * 4 + 3, none⟩) hg2).trans m3
      have n4 := (hb5.cell (p := ⟨g3, o3 + 1, none⟩) hg32).trans m4
      have HB5 := hid (HB2.out.trans (hb5.mono HB2.out.size))
      clear hb3 hb4 hb5 m1 m2 m3 m4 hg2 hg32
      go_wp2
      go_ret
      exact ⟨rfl, HB5.out⟩
    · cases h1
end Go.Proofs.YtmgemdhpjibdiaaDoor
