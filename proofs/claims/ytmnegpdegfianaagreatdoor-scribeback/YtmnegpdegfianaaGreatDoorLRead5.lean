/- The walk of the reader's value: the last attribute's value is read. -/
import Derived.Test.YtmnegpdegfianaaGreatDoorLRead4
namespace Go.Proofs.YtmnegpdegfianaaGreatDoor
open Go.RowKit Go.Shelf
theorem encL_setv (l : List L.Attr) (n u u' : ByteArray) : (encL (l ++ [(n, u)])).set (l.length * 2 + 1) (.string u') = encL (l ++ [(n, u')]) := by
  rw [encL_snoc, encL_snoc, List.set_append_right _ _ (by rw [encL_length]; omega), encL_length]
  have : l.length * 2 + 1 - l.length * 2 = 1 := by omega
  rw [this]
  rfl
section
variable {W0 : Base} {b : Nat} {s : ByteArray} {i : Nat} {k : Int} {p : Nat} {nm tx : ByteArray} {v : Value} {l : List L.Attr} {w : World}
theorem RD.stored {g n cap : Nat} (R : RD W0 b s i k p nm tx (.slice (some ⟨g, 0, none⟩) n cap) l w) (q : Nat) (x : Value) {l' : List L.Attr} (hl : l'.length = l.length) (he : (encL l).set q x = encL l') : RD W0 b s i k p nm tx (.slice (some ⟨g, 0, none⟩) n cap) l' (w.setCell ⟨g, q, none⟩ x) := by
  have hn : n = l.length := by
    rcases R.row.2 with ⟨h, _⟩ | ⟨_, _, _, h, _⟩
    · cases h
    · simp only [Value.slice.injEq] at h
      exact h.2.1
  subst hn
  have gb : b < g := (World.ownsRow.lt R.row g rfl).1
  refine ⟨R.tab, R.low, R.bel.setCell (p := ⟨g, q, none⟩) (Nat.le_of_lt (Nat.lt_of_le_of_lt R.low gb)) x, ?_, ?_, ?_⟩
  · rw [heap_setCell_other w ⟨g, q, none⟩ b x (by show b ≠ g; omega)]; exact R.obj
  · have := (World.ownsRow.stored R.row q x).1
    rw [he, ← hl] at this
    unfold AttrsAt
    rw [← hl]
    exact this
  · intro c hc
    obtain ⟨k1, k2, k3⟩ := R.keep c hc
    exact ⟨by rw [heap_setCell_other w ⟨g, q, none⟩ c.1 x (fun e => k3 (by simp [Value.ownBlock, e]))]; exact k1, k2, k3⟩
set_option maxRecDepth 100000 in
set_option maxHeartbeats 1000000 in
theorem val_form (R : Hid (RD W0 b s i k p nm tx v l w)) (hi : i ≤ s.size) (H : Hid (L.thereB s i [34] = false)) :
    Calls Tryz.prog 164 #[.pointer (some ⟨b, 0, none⟩)] w fun e w' => e = .returned (.int .i64 30) ∧ RD W0 b s i k p nm tx v l w' := by
  have H3 : Hid (L.thereB s i (ByteArray.mk #[34]).data.toList = false) := H
  go_enter Tryz.func164, Tryz.ntmps164
  go_wp2_with fail
  refine (sees_b R hi ⟨#[34]⟩ false H3).mono ?_
  rintro e w1 ⟨rfl, m, rfl⟩
  have R1 := hid (R.out.drewN m)
  go_wp2
  go_ret
  exact ⟨rfl, R1.out⟩
set_option maxRecDepth 100000 in
set_option maxHeartbeats 1000000 in
theorem val_end (R : Hid (RD W0 b s i k p nm tx v l w)) (hi : i ≤ s.size) (hz : s.size ≤ 140737488351232) (H : Hid (L.thereB s i [34] = true)) (HK : Hid (L.runP (L.notB 34) s (i + 1) = s.size)) :
    Calls Tryz.prog 164 #[.pointer (some ⟨b, 0, none⟩)] w fun e w' => e = .returned (.int .i64 30) ∧ RD W0 b s s.size k p nm tx v l w' := by
  have H3 : Hid (L.thereB s i (ByteArray.mk #[34]).data.toList = true) := H
  have hi1 : i + 1 ≤ s.size := L.there_lt H.out
  go_enter Tryz.func164, Tryz.ntmps164
  go_wp2_with fail
  refine (sees_b R hi ⟨#[34]⟩ true H3).mono ?_
  rintro e w1 ⟨rfl, m, rfl⟩
  have R1 := hid (R.out.drewN m)
  clear R
  generalize w.drewN m = w1 at R1 ⊢
  have c0 := R1.out.cell 0
  have c1 := R1.out.cell 1
  have f1 := R1.out.frozen 1
  simp only [List.getElem?_toArray, List.getElem?_cons_zero, List.getElem?_cons_succ] at c0 c1
  go_wp2_with fail
  refine (find_any R1 hz 34 (i + 1) hi1).mono ?_
  rw [HK.out]
  rintro e w2 ⟨rfl, rfl⟩
  go_wp2
  go_ret
  exact ⟨rfl, R1.out.set 1 _ rfl⟩
set_option maxRecDepth 100000 in
set_option maxHeartbeats 1000000 in
theorem val_bad (R : Hid (RD W0 b s i k p nm tx v l w)) (hi : i ≤ s.size) (hz : s.size ≤ 140737488351232) (H : Hid (L.thereB s i [34] = true)) (j : Nat) (HK : Hid (L.runP (L.notB 34) s (i + 1) = j)) (hj : j < s.size)
    (u : ByteArray) (n : Nat) (e0 : Int) (HU : Hid (L.undoB true (s.extract (i + 1) j) = (u, n, e0))) (he : e0 ≠ 0) :
    Calls Tryz.prog 164 #[.pointer (some ⟨b, 0, none⟩)] w fun e w' => e = .returned (.int .i64 e0) ∧ RD W0 b s (i + 1 + n) k p nm tx v l w' := by
  have H3 : Hid (L.thereB s i (ByteArray.mk #[34]).data.toList = true) := H
  have hi1 : i + 1 ≤ s.size := L.there_lt H.out
  have j1 : i + 1 ≤ j := by rw [← HK.out]; exact L.run_ge _ _ _
  have b1 : (e0 == 0) = false := beq_eq_false_iff_ne.2 he
  have b2 : ((j : Int) == (s.size : Int)) = false := beq_eq_false_iff_ne.2 (by omega)
  have HE := hid he
  clear he
  go_enter Tryz.func164, Tryz.ntmps164
  go_wp2_with fail
  refine (sees_b R hi ⟨#[34]⟩ true H3).mono ?_
  rintro e w1 ⟨rfl, m, rfl⟩
  have R1 := hid (R.out.drewN m)
  clear R
  generalize w.drewN m = w1 at R1 ⊢
  have c0 := R1.out.cell 0
  have c1 := R1.out.cell 1
  simp only [List.getElem?_toArray, List.getElem?_cons_zero, List.getElem?_cons_succ] at c0 c1
  go_wp2_with fail
  refine (find_any R1 hz 34 (i + 1) hi1).mono ?_
  rw [HK.out]
  rintro e w2 ⟨rfl, rfl⟩
  go_wp2_with fail
  refine (und_bad R1 hz (i + 1) j true j1 (by omega) u n e0 HU HE.out).mono ?_
  rintro e w2 ⟨rfl, R2⟩
  have R3 := hid R2
  clear R2
  go_wp2
  go_ret
  exact ⟨rfl, R3.out⟩
set_option maxRecDepth 100000 in
set_option maxHeartbeats 1000000 in
theorem val_long (R : Hid (RD W0 b s i k p nm tx v l w)) (hi : i ≤ s.size) (hz : s.size ≤ 140737488351232) (H : Hid (L.thereB s i [34] = true)) (j : Nat) (HK : Hid (L.runP (L.notB 34) s (i + 1) = j)) (hj : j < s.size)
    (u : ByteArray) (n : Nat) (HU : Hid (L.undoB true (s.extract (i + 1) j) = (u, n, 0))) (hl : 1500 < u.size) :
    Calls Tryz.prog 164 #[.pointer (some ⟨b, 0, none⟩)] w fun e w' => e = .returned (.int .i64 34) ∧ RD W0 b s i k p nm tx v l w' := by
  have H3 : Hid (L.thereB s i (ByteArray.mk #[34]).data.toList = true) := H
  have hi1 : i + 1 ≤ s.size := L.there_lt H.out
  have j1 : i + 1 ≤ j := by rw [← HK.out]; exact L.run_ge _ _ _
  have b2 : ((j : Int) == (s.size : Int)) = false := beq_eq_false_iff_ne.2 (by omega)
  go_enter Tryz.func164, Tryz.ntmps164
  go_wp2_with fail
  refine (sees_b R hi ⟨#[34]⟩ true H3).mono ?_
  rintro e w1 ⟨rfl, m, rfl⟩
  have R1 := hid (R.out.drewN m)
  clear R
  generalize w.drewN m = w1 at R1 ⊢
  have c0 := R1.out.cell 0
  have c1 := R1.out.cell 1
  simp only [List.getElem?_toArray, List.getElem?_cons_zero, List.getElem?_cons_succ] at c0 c1
  go_wp2_with fail
  refine (find_any R1 hz 34 (i + 1) hi1).mono ?_
  rw [HK.out]
  rintro e w2 ⟨rfl, rfl⟩
  go_wp2_with fail
  refine (und_long R1 hz (i + 1) j true j1 (by omega) u n HU hl).mono ?_
  rintro e w2 ⟨rfl, R2⟩
  have R3 := hid R2
  clear R2
  go_wp2
  go_ret
  exact ⟨rfl, R3.out⟩
set_option maxRecDepth 100000 in
set_option maxHeartbeats 2000000 in
theorem val_ok (an au : ByteArray) (R : Hid (RD W0 b s i k p nm tx v (l ++ [(an, au)]) w)) (hi : i ≤ s.size) (hz : s.size ≤ 140737488351232) (H : Hid (L.thereB s i [34] = true)) (j : Nat) (HK : Hid (L.runP (L.notB 34) s (i + 1) = j)) (hj : j < s.size)
    (u : ByteArray) (n : Nat) (HU : Hid (L.undoB true (s.extract (i + 1) j) = (u, n, 0))) (hl : u.size ≤ 1500) (hn : l.length < 20) :
    Calls Tryz.prog 164 #[.pointer (some ⟨b, 0, none⟩)] w fun e w' => e = .returned (.int .i64 0) ∧ RD W0 b s (j + 1) k p nm tx v (l ++ [(an, u)]) w' := by
  have H3 : Hid (L.thereB s i (ByteArray.mk #[34]).data.toList = true) := H
  have hi1 : i + 1 ≤ s.size := L.there_lt H.out
  have j1 : i + 1 ≤ j := by rw [← HK.out]; exact L.run_ge _ _ _
  have b2 : ((j : Int) == (s.size : Int)) = false := beq_eq_false_iff_ne.2 (by omega)
  obtain ⟨g, cap, rfl⟩ : ∃ g cap, v = .slice (some ⟨g, 0, none⟩) (l.length + 1) cap := by
    rcases R.out.row.2 with ⟨_, h⟩ | ⟨g, cap, _, h, _⟩
    · simp at h
    · exact ⟨g, cap, by simpa using h⟩
  go_enter Tryz.func164, Tryz.ntmps164
  go_wp2_with fail
  refine (sees_b R hi ⟨#[34]⟩ true H3).mono ?_
  rintro e w1 ⟨rfl, m, rfl⟩
  have R1 := hid (R.out.drewN m)
  clear R
  generalize w.drewN m = w1 at R1 ⊢
  have c0 := R1.out.cell 0
  have c1 := R1.out.cell 1
  simp only [List.getElem?_toArray, List.getElem?_cons_zero, List.getElem?_cons_succ] at c0 c1
  go_wp2_with fail
  refine (find_any R1 hz 34 (i + 1) hi1).mono ?_
  rw [HK.out]
  rintro e w2 ⟨rfl, rfl⟩
  go_wp2_with fail
  refine (und_ok R1 hz (i + 1) j true j1 (by omega) u n HU hl).mono ?_
  rintro e w2 ⟨rfl, R2⟩
  have R3 := hid R2
  clear R2 c0 c1
  have HW : Hid (w2.ownsRow (b + 1) 143 2 (.slice (some ⟨g, 0, none⟩) (l.length + 1) cap) (l.length + 1) (encL (l ++ [(an, au)]))) := by
    have := R3.out.row
    unfold AttrsAt at this
    exact hid (by simpa using this)
  have d6 := R3.out.cell 6
  have d1 := R3.out.cell 1
  have f1 := R3.out.frozen 1
  simp only [List.getElem?_toArray, List.getElem?_cons_zero, List.getElem?_cons_succ] at d1 d6
  have dg : w2.cell? ⟨g, l.length * 2 + 1, none⟩ = some (.string au) := by
    have := (encL_at (l ++ [(an, au)]) l.length (by simp)).2
    rw [World.ownsRow.cellAt HW.out _ (by omega), this]
    simp
  have fg : w2.frozen? ⟨g, l.length * 2 + 1, none⟩ = false := World.ownsRow.frozenAt HW.out _
  have gb : b < g := (World.ownsRow.lt HW.out g rfl).1
  have ne1 : b ≠ g := by omega
  have ne2 : g ≠ b := by omega
  have hx : (0 : Int) ≤ (l.length : Int) := by omega
  have hy : (l.length : Int) < ((l.length + 1 : Nat) : Int) := by omega
  go_wp2
  go_region
  all_goals
    go_wp2
    go_ret
    have R4 := R3.out.stored (l.length * 2 + 1) (.string u) (l' := l ++ [(an, u)]) (by simp) (encL_setv l an au u)
    exact ⟨rfl, (R4.set 1 (.int .i64 ((j : Int) + 1)) (i' := j + 1) (by go_num)).drewN 1⟩
end
end Go.Proofs.YtmnegpdegfianaaGreatDoor
