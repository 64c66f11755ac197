/- The walk of the laws' alive: it answers true. -/
import Derived.Test.YtafjffnijonglaaDoorLAll
namespace Go.Proofs.YtafjffnijonglaaDoor
open Go.RowKit Go.Shelf
theorem alive_one : L.allP ⟨#[60, 97, 32, 98, 61, 34, 49, 34, 47, 62, 120]⟩ = .ok [⟨3, 0, ⟨#[97]⟩, ⟨#[]⟩, [(⟨#[98]⟩, ⟨#[49]⟩)]⟩, ⟨4, 10, ⟨#[]⟩, ⟨#[120]⟩, []⟩] := by kernel_rfl
theorem alive_two : L.allP ⟨#[60, 97, 32, 98, 61, 49, 62]⟩ = .error (5, 30) := by kernel_rfl
theorem encT_at : ∀ (l : List TV) (j : Nat) (hj : j < l.length), (encT l)[j * 5]? = some (.int .i64 l[j].1.kind) ∧ (encT l)[j * 5 + 1]? = some (.int .i64 (l[j].1.pos : Int)) ∧ (encT l)[j * 5 + 2]? = some (.string l[j].1.name) ∧ (encT l)[j * 5 + 3]? = some (.string l[j].1.text) ∧ (encT l)[j * 5 + 4]? = some l[j].2
  | a :: l, 0, _ => by simp [encT, encT1]
  | a :: l, j + 1, hj => by
    have := encT_at l j (by simpa using hj)
    have e1 : (j + 1) * 5 = j * 5 + 1 + 1 + 1 + 1 + 1 := by omega
    simp only [encT, List.flatMap_cons, encT1, List.cons_append, List.nil_append, e1] at *
    simpa using this
/-- What the cells of a row of tokens hold. -/
theorem tok_cells {base : Nat} {l : List TV} {w : World} {g cap : Nat} (h : TokRow base (.slice (some ⟨g, 0, none⟩) l.length cap) l w) (j : Nat) (hj : j < l.length) :
    w.cell? ⟨g, j * 5, none⟩ = some (.int .i64 l[j].1.kind) ∧ w.cell? ⟨g, j * 5 + 1, none⟩ = some (.int .i64 (l[j].1.pos : Int)) ∧ w.cell? ⟨g, j * 5 + 2, none⟩ = some (.string l[j].1.name) ∧ w.cell? ⟨g, j * 5 + 3, none⟩ = some (.string l[j].1.text) ∧ w.cell? ⟨g, j * 5 + 4, none⟩ = some l[j].2 := by
  obtain ⟨h0, h1, h2, h3, h4⟩ := encT_at l j hj
  have c := fun q hq => World.ownsRow.cellAt h.1 q hq
  exact ⟨by rw [c _ (by omega)]; exact h0, by rw [c _ (by omega)]; exact h1, by rw [c _ (by omega)]; exact h2, by rw [c _ (by omega)]; exact h3, by rw [c _ (by omega)]; exact h4⟩
theorem tok_form {base : Nat} {V : Value} {l : List TV} {w : World} (h : TokRow base V l w) (hl : l ≠ []) : ∃ g cap, V = .slice (some ⟨g, 0, none⟩) l.length cap ∧ g < w.heap.size ∧ base ≤ g := by
  rcases h.1.2 with ⟨_, h0⟩ | ⟨g, cap, cur, rfl, hb, hg, _⟩
  · exact absurd (List.length_eq_zero_iff.1 h0) hl
  · exact ⟨g, cap, rfl, lt_of_block hg, hb⟩
theorem att_form {base : Nat} {v : Value} {l : List L.Attr} {w : World} (h : w.ownsRow base 40 2 v l.length (encL l)) (hl : l ≠ []) : ∃ g cap, v = .slice (some ⟨g, 0, none⟩) l.length cap ∧ g < w.heap.size := by
  rcases h.2 with ⟨_, h0⟩ | ⟨g, cap, cur, rfl, hb, hg, _⟩
  · exact absurd (List.length_eq_zero_iff.1 h0) hl
  · exact ⟨g, cap, rfl, lt_of_block hg⟩
set_option maxRecDepth 100000 in
set_option maxHeartbeats 4000000 in
theorem alive_any (w : World) (ht : Tab w) : Calls Tryd.prog 9 #[] w fun e w' => e = .returned (.bool true) ∧ Below w.heap.size w w' := by
  have HT := hid ht
  clear ht
  go_enter Tryd.func9, Tryd.ntmps9
  go_wp2_with fail
  refine Calls.mono (all_any' _ w HT.out (by decide) _ (hid alive_one)) ?_
  rintro e w1 ⟨hb1, ⟨q, e0, h1, _⟩ | ⟨l, V, h1, rfl, h3⟩⟩
  · cases h1
  · obtain ⟨⟨t1, v1⟩, l1, rfl⟩ : ∃ x l1, l = x :: l1 := by cases l with | nil => cases h1 | cons x l1 => exact ⟨x, l1, rfl⟩
    obtain ⟨⟨t2, v2⟩, l2, rfl⟩ : ∃ x l2, l1 = x :: l2 := by cases l1 with | nil => cases h1 | cons x l2 => exact ⟨x, l2, rfl⟩
    obtain rfl : l2 = [] := by cases l2 with | nil => rfl | cons x l3 => cases h1
    simp only [List.map_cons, List.map_nil, Except.ok.injEq, List.cons.injEq, and_true] at h1
    obtain ⟨rfl, rfl⟩ := h1
    obtain ⟨g, cap, rfl, hg, _⟩ := tok_form h3 (by simp)
    have k0 := tok_cells h3 0 (by simp)
    have k1 := tok_cells h3 1 (by simp)
    have ha : w1.ownsRow w.heap.size 40 2 v1 [((⟨#[98]⟩ : ByteArray), (⟨#[49]⟩ : ByteArray))].length (encL [((⟨#[98]⟩ : ByteArray), (⟨#[49]⟩ : ByteArray))]) := h3.2 _ (List.mem_cons_self ..)
    obtain ⟨g1, cap1, hv1, hg1⟩ := att_form ha (by simp)
    simp only [List.length_cons, List.length_nil, Nat.zero_add] at hv1
    subst hv1
    have a1 := (encL_at [((⟨#[98]⟩ : ByteArray), (⟨#[49]⟩ : ByteArray))] 0 (by simp)).2
    have ca := World.ownsRow.cellAt ha 1 (by simp)
    simp only [Nat.zero_mul, Nat.one_mul, Nat.zero_add, List.getElem_cons_zero, List.getElem_cons_succ] at k0 k1 a1
    rw [a1] at ca
    have HT1 := hid (HT.out.below hb1)
    have HB1 := hid hb1
    clear hb1 h3 ha a1
    go_wp2_with fail
    refine Calls.mono (all_any' _ w1 HT1.out (by decide) _ (hid alive_two)) ?_
    rintro e w2 ⟨hb2, ⟨q, e0, h1, _, rfl⟩ | ⟨l, V, h1, _⟩⟩
    · simp only [Except.error.injEq, Prod.mk.injEq] at h1
      obtain ⟨rfl, rfl⟩ := h1
      have m0 : w2.cell? ⟨g, 0, none⟩ = some (.int .i64 3) := by rw [hb2.cell (p := ⟨g, 0, none⟩) hg]; exact k0.1
      have m2 : w2.cell? ⟨g, 2, none⟩ = some (.string ⟨#[97]⟩) := by rw [hb2.cell (p := ⟨g, 2, none⟩) hg]; exact k0.2.2.1
      have m4 : w2.cell? ⟨g, 4, none⟩ = some (.slice (some ⟨g1, 0, none⟩) 1 cap1) := by rw [hb2.cell (p := ⟨g, 4, none⟩) hg]; exact k0.2.2.2.2
      have m8 : w2.cell? ⟨g, 8, none⟩ = some (.string ⟨#[120]⟩) := by rw [hb2.cell (p := ⟨g, 8, none⟩) hg]; exact k1.2.2.2.1
      have n1 : w2.cell? ⟨g1, 1, none⟩ = some (.string ⟨#[49]⟩) := by rw [hb2.cell (p := ⟨g1, 1, none⟩) hg1]; exact ca
      have HB2 := hid (HB1.out.trans (hb2.mono HB1.out.size))
      clear hb2 k0 k1 ca
      go_wp2
      go_ret
      exact ⟨rfl, HB2.out⟩
    · cases h1

end Go.Proofs.YtafjffnijonglaaDoor
