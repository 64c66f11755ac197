/- The walks of the reader's name, undone, text, more. -/
import Derived.Test.YtmnegpdegfianaaGreatDoorLRead2
import Derived.Test.YtmnegpdegfianaaGreatDoorLFacts2
namespace Go.Proofs.YtmnegpdegfianaaGreatDoor
open Go.RowKit
theorem L.undoF_place (v : Bool) : ∀ (f o : Nat) (acc l r : List UInt8) (k : Nat) (e : Int), E.undoF v f o acc l = (r, k, e) → k ≤ o + l.length
  | 0, o, acc, l, r, k, e, h => by
    simp only [E.undoF, Prod.mk.injEq] at h
    omega
  | f + 1, o, acc, l, r, k, e, h => by
    unfold E.undoF at h
    split at h
    · simp only [Prod.mk.injEq] at h; omega
    · split at h
      · simp only [Prod.mk.injEq] at h; omega
      · rename_i hs
        have := L.undoF_place v f _ _ _ r k e h
        have h2 := (E.step_ok v l (by simpa using hs)).2.1
        simp at this
        omega
theorem L.undo_place {v : Bool} {b u : ByteArray} {n : Nat} {e : Int} (h : L.undoB v b = (u, n, e)) : n ≤ b.size := by
  have : (E.undoL v b.data.toList).2.1 = n := by
    have := congrArg (fun x => x.2.1) h
    simpa [L.undoB] using this
  have h2 := L.undoF_place v (b.data.toList.length + 1) 0 [] b.data.toList (E.undoL v b.data.toList).1 n (E.undoL v b.data.toList).2.2 (by
    show E.undoL v b.data.toList = _
    rw [← this])
  simpa using h2
theorem L.undo_list {v : Bool} {b u : ByteArray} {n : Nat} {e : Int} (h : L.undoB v b = (u, n, e)) : E.undoL v b.data.toList = (u.data.toList, n, e) := by
  unfold L.undoB at h
  simp only [Prod.mk.injEq] at h
  obtain ⟨rfl, rfl, rfl⟩ := h
  simp
section
variable {W0 : Base} {b : Nat} {s : ByteArray} {i : Nat} {k : Int} {p : Nat} {nm tx : ByteArray} {v : Value} {l : List L.Attr} {w : World}
set_option maxRecDepth 100000 in
set_option maxHeartbeats 400000 in
theorem nm_yes (R : Hid (RD W0 b s i k p nm tx v l w)) (hi : i ≤ s.size) (hz : s.size ≤ 140737488351232) (j : Nat) (HJ : Hid (L.runP L.wordB s i = j)) (H : Hid (L.nameP (s.extract i j) = true)) :
    Calls Tryz.prog 123 #[.pointer (some ⟨b, 0, none⟩)] w fun e w' => e = .returned (.int .i64 0) ∧ RD W0 b s j k p (s.extract i j) tx v l w' := by
  have j1 : i ≤ j := by rw [← HJ.out]; exact L.run_ge _ _ _
  have j2 : j ≤ s.size := by rw [← HJ.out]; exact L.run_le hi
  have HS : Hid ((s.extract i j).size = j - i) := by show _ = _; simp; omega
  go_enter Tryz.func123, Tryz.ntmps123
  go_wp2_with fail
  refine (word_any R hi hz).mono ?_
  rintro e w1 ⟨rfl, m, rfl⟩
  have R1 := hid (R.out.drewN m)
  rw [HJ.out]
  go_wp2_with fail
  refine (name_any _ true _ R1.out.tabw (by rw [HS.out]; unfold maxLen; omega) H).mono ?_
  rintro e w2 ⟨rfl, hb2⟩
  have R2 := hid (R1.out.below hb2)
  have c1 := R2.out.cell 1
  have f1 := R2.out.frozen 1
  have c4 := R2.out.cell 4
  have f4 := R2.out.frozen 4
  simp only [List.getElem?_toArray, List.getElem?_cons_zero, List.getElem?_cons_succ] at c1 c4
  have s1 : (((s.extract i j).size : Nat) : Int) = (j : Int) - (i : Int) := by rw [HS.out]; omega
  clear hb2
  go_wp2
  go_ret
  have R3 := R2.out.set 4 (.string (s.extract i j)) (s' := s) (i' := i) (k' := k) (p' := p) (nm' := s.extract i j) (tx' := tx) rfl
  refine ⟨rfl, R3.set 1 _ ?_⟩
  go_num
set_option maxRecDepth 100000 in
set_option maxHeartbeats 400000 in
theorem nm_no (R : Hid (RD W0 b s i k p nm tx v l w)) (hi : i ≤ s.size) (hz : s.size ≤ 140737488351232) (j : Nat) (HJ : Hid (L.runP L.wordB s i = j)) (H : Hid (L.nameP (s.extract i j) = false)) :
    Calls Tryz.prog 123 #[.pointer (some ⟨b, 0, none⟩)] w fun e w' => e = .returned (.int .i64 31) ∧ RD W0 b s i k p nm tx v l w' := by
  have j2 : j ≤ s.size := by rw [← HJ.out]; exact L.run_le hi
  have HS : Hid ((s.extract i j).size ≤ s.size) := by show _ ≤ _; simp; omega
  go_enter Tryz.func123, Tryz.ntmps123
  go_wp2_with fail
  refine (word_any R hi hz).mono ?_
  rintro e w1 ⟨rfl, m, rfl⟩
  have R1 := hid (R.out.drewN m)
  rw [HJ.out]
  go_wp2_with fail
  refine (name_any _ false _ R1.out.tabw (by have := HS.out; unfold maxLen; omega) H).mono ?_
  rintro e w2 ⟨rfl, hb2⟩
  have R2 := hid (R1.out.below hb2)
  clear hb2
  go_wp2
  go_ret
  exact ⟨rfl, R2.out⟩
set_option maxRecDepth 100000 in
set_option maxHeartbeats 400000 in
theorem und_bad (R : Hid (RD W0 b s i k p nm tx v l w)) (hz : s.size ≤ 140737488351232) (f t : Nat) (vb : Bool) (hf : f ≤ t) (ht : t ≤ s.size) (u : ByteArray) (n : Nat) (e0 : Int) (HU : Hid (L.undoB vb (s.extract f t) = (u, n, e0))) (he : e0 ≠ 0) :
    Calls Tryz.prog 169 #[.pointer (some ⟨b, 0, none⟩), .int .i64 (f : Int), .int .i64 (t : Int), .bool vb] w fun e w' => e = .returned (.tuple #[.string u, .int .i64 e0]) ∧ RD W0 b s (f + n) k p nm tx v l w' := by
  have c0 := R.out.cell 0
  simp only [List.getElem?_toArray, List.getElem?_cons_zero] at c0
  have HS : Hid ((s.extract f t).size ≤ s.size - f) := by show _ ≤ _; simp; omega
  have hn : n ≤ s.size - f := Nat.le_trans (L.undo_place HU.out) HS.out
  have b1 : (e0 == 0) = false := beq_eq_false_iff_ne.2 he
  clear he
  go_enter Tryz.func169, Tryz.ntmps169
  go_wp2_with fail
  refine (undo_any _ vb u n e0 _ R.out.tabw (by have := HS.out; omega) (hid (L.undo_list HU.out))).mono ?_
  rintro e w1 ⟨rfl, hb1⟩
  have R1 := hid (R.out.below hb1)
  have c1 := R1.out.cell 1
  have f1 := R1.out.frozen 1
  simp only [List.getElem?_toArray, List.getElem?_cons_zero, List.getElem?_cons_succ] at c1
  clear hb1
  go_wp2
  go_ret2
  exact ⟨rfl, R1.out.set 1 _ (by go_num)⟩
set_option maxRecDepth 100000 in
set_option maxHeartbeats 400000 in
theorem und_long (R : Hid (RD W0 b s i k p nm tx v l w)) (hz : s.size ≤ 140737488351232) (f t : Nat) (vb : Bool) (hf : f ≤ t) (ht : t ≤ s.size) (u : ByteArray) (n : Nat) (HU : Hid (L.undoB vb (s.extract f t) = (u, n, 0))) (hl : 1500 < u.size) :
    Calls Tryz.prog 169 #[.pointer (some ⟨b, 0, none⟩), .int .i64 (f : Int), .int .i64 (t : Int), .bool vb] w fun e w' => e = .returned (.tuple #[.string u, .int .i64 34]) ∧ RD W0 b s i k p nm tx v l w' := by
  have c0 := R.out.cell 0
  simp only [List.getElem?_toArray, List.getElem?_cons_zero] at c0
  have HS : Hid ((s.extract f t).size ≤ s.size - f) := by show _ ≤ _; simp; omega
  go_enter Tryz.func169, Tryz.ntmps169
  go_wp2_with fail
  refine (undo_any _ vb u n 0 _ R.out.tabw (by have := HS.out; omega) (hid (L.undo_list HU.out))).mono ?_
  rintro e w1 ⟨rfl, hb1⟩
  have R1 := hid (R.out.below hb1)
  clear hb1
  go_wp2
  go_ret2
  exact ⟨rfl, R1.out⟩
set_option maxRecDepth 100000 in
set_option maxHeartbeats 400000 in
theorem und_ok (R : Hid (RD W0 b s i k p nm tx v l w)) (hz : s.size ≤ 140737488351232) (f t : Nat) (vb : Bool) (hf : f ≤ t) (ht : t ≤ s.size) (u : ByteArray) (n : Nat) (HU : Hid (L.undoB vb (s.extract f t) = (u, n, 0))) (hl : u.size ≤ 1500) :
    Calls Tryz.prog 169 #[.pointer (some ⟨b, 0, none⟩), .int .i64 (f : Int), .int .i64 (t : Int), .bool vb] w fun e w' => e = .returned (.tuple #[.string u, .int .i64 0]) ∧ RD W0 b s i k p nm tx v l w' := by
  have c0 := R.out.cell 0
  simp only [List.getElem?_toArray, List.getElem?_cons_zero] at c0
  have HS : Hid ((s.extract f t).size ≤ s.size - f) := by show _ ≤ _; simp; omega
  go_enter Tryz.func169, Tryz.ntmps169
  go_wp2_with fail
  refine (undo_any _ vb u n 0 _ R.out.tabw (by have := HS.out; omega) (hid (L.undo_list HU.out))).mono ?_
  rintro e w1 ⟨rfl, hb1⟩
  have R1 := hid (R.out.below hb1)
  clear hb1
  go_wp2
  go_ret2
  exact ⟨rfl, R1.out⟩
set_option maxRecDepth 100000 in
set_option maxHeartbeats 400000 in
theorem txt_bad (R : Hid (RD W0 b s i k p nm tx v l w)) (hi : i ≤ s.size) (hz : s.size ≤ 140737488351232) (j : Nat) (HJ : Hid (L.runP (L.notB 60) s i = j)) (u : ByteArray) (n : Nat) (e0 : Int) (HU : Hid (L.undoB false (s.extract i j) = (u, n, e0))) (he : e0 ≠ 0) :
    Calls Tryz.prog 128 #[.pointer (some ⟨b, 0, none⟩)] w fun e w' => e = .returned (.int .i64 e0) ∧ RD W0 b s (i + n) k p nm tx v l w' := by
  have c1 := R.out.cell 1
  simp only [List.getElem?_toArray, List.getElem?_cons_zero, List.getElem?_cons_succ] at c1
  have j1 : i ≤ j := by rw [← HJ.out]; exact L.run_ge _ _ _
  have j2 : j ≤ s.size := by rw [← HJ.out]; exact L.run_le hi
  have b1 : (e0 == 0) = false := beq_eq_false_iff_ne.2 he
  have HE := hid he
  clear he
  go_enter Tryz.func128, Tryz.ntmps128
  go_wp2_with fail
  refine (find_any R hz 60 i hi).mono ?_
  rintro e w1 ⟨rfl, rfl⟩
  rw [HJ.out]
  go_wp2_with fail
  refine (und_bad R hz i j false j1 j2 u n e0 HU HE.out).mono ?_
  rintro e w1 ⟨rfl, R1⟩
  have R2 := hid R1
  clear R1
  go_wp2
  go_ret
  exact ⟨rfl, R2.out⟩
set_option maxRecDepth 100000 in
set_option maxHeartbeats 400000 in
theorem txt_long (R : Hid (RD W0 b s i k p nm tx v l w)) (hi : i ≤ s.size) (hz : s.size ≤ 140737488351232) (j : Nat) (HJ : Hid (L.runP (L.notB 60) s i = j)) (u : ByteArray) (n : Nat) (HU : Hid (L.undoB false (s.extract i j) = (u, n, 0))) (hl : 1500 < u.size) :
    Calls Tryz.prog 128 #[.pointer (some ⟨b, 0, none⟩)] w fun e w' => e = .returned (.int .i64 34) ∧ RD W0 b s i k p nm tx v l w' := by
  have c1 := R.out.cell 1
  simp only [List.getElem?_toArray, List.getElem?_cons_zero, List.getElem?_cons_succ] at c1
  have j1 : i ≤ j := by rw [← HJ.out]; exact L.run_ge _ _ _
  have j2 : j ≤ s.size := by rw [← HJ.out]; exact L.run_le hi
  go_enter Tryz.func128, Tryz.ntmps128
  go_wp2_with fail
  refine (find_any R hz 60 i hi).mono ?_
  rintro e w1 ⟨rfl, rfl⟩
  rw [HJ.out]
  go_wp2_with fail
  refine (und_long R hz i j false j1 j2 u n HU hl).mono ?_
  rintro e w1 ⟨rfl, R1⟩
  have R2 := hid R1
  clear R1
  go_wp2
  go_ret
  exact ⟨rfl, R2.out⟩
set_option maxRecDepth 100000 in
set_option maxHeartbeats 400000 in
theorem txt_ok (R : Hid (RD W0 b s i k p nm tx v l w)) (hi : i ≤ s.size) (hz : s.size ≤ 140737488351232) (j : Nat) (HJ : Hid (L.runP (L.notB 60) s i = j)) (u : ByteArray) (n : Nat) (HU : Hid (L.undoB false (s.extract i j) = (u, n, 0))) (hl : u.size ≤ 1500) :
    Calls Tryz.prog 128 #[.pointer (some ⟨b, 0, none⟩)] w fun e w' => e = .returned (.int .i64 0) ∧ RD W0 b s j k p nm u v l w' := by
  have c1 := R.out.cell 1
  simp only [List.getElem?_toArray, List.getElem?_cons_zero, List.getElem?_cons_succ] at c1
  have j1 : i ≤ j := by rw [← HJ.out]; exact L.run_ge _ _ _
  have j2 : j ≤ s.size := by rw [← HJ.out]; exact L.run_le hi
  go_enter Tryz.func128, Tryz.ntmps128
  go_wp2_with fail
  refine (find_any R hz 60 i hi).mono ?_
  rintro e w1 ⟨rfl, rfl⟩
  rw [HJ.out]
  go_wp2_with fail
  refine (und_ok R hz i j false j1 j2 u n HU hl).mono ?_
  rintro e w1 ⟨rfl, R1⟩
  have R2 := hid R1
  clear R1
  have d1 := R2.out.cell 1
  have f1 := R2.out.frozen 1
  have d5 := R2.out.cell 5
  have f5 := R2.out.frozen 5
  simp only [List.getElem?_toArray, List.getElem?_cons_zero, List.getElem?_cons_succ] at d1 d5
  go_wp2
  go_ret
  have R3 := R2.out.set 5 (.string u) (s' := s) (i' := i) (k' := k) (p' := p) (nm' := nm) (tx' := u) rfl
  exact ⟨rfl, R3.set 1 _ rfl⟩
theorem sees_b (R : Hid (RD W0 b s i k p nm tx v l w)) (hi : i ≤ s.size) (t : ByteArray) (x : Bool) (H : Hid (L.thereB s i t.data.toList = x)) :
    Calls Tryz.prog 157 #[.pointer (some ⟨b, 0, none⟩), .string t] w fun e w' => e = .returned (.bool x) ∧ ∃ m, w' = w.drewN m := by
  have h := sees_any R hi t
  rw [H.out] at h
  exact h
set_option maxRecDepth 100000 in
set_option maxHeartbeats 4000000 in
theorem more_any (R : Hid (RD W0 b s i k p nm tx v l w)) (hi : i ≤ s.size) (hz : s.size ≤ 140737488351232) (j : Nat) (HJ : Hid (L.runP L.blankB s i = j)) :
    Calls Tryz.prog 161 #[.pointer (some ⟨b, 0, none⟩)] w fun e w' => e = .returned (.bool (L.moreB s i j)) ∧ RD W0 b s j k p nm tx v l w' := by
  have c1 := R.out.cell 1
  simp only [List.getElem?_toArray, List.getElem?_cons_zero, List.getElem?_cons_succ] at c1
  have j1 : i ≤ j := by rw [← HJ.out]; exact L.run_ge _ _ _
  have j2 : j ≤ s.size := by rw [← HJ.out]; exact L.run_le hi
  go_enter Tryz.func161, Tryz.ntmps161
  go_wp2_with fail
  refine (blanks_any R hi hz).mono ?_
  rw [HJ.out]
  rintro e w1 ⟨rfl, R1⟩
  have R2 := hid R1
  clear R1 c1
  have d0 := R2.out.cell 0
  have d1 := R2.out.cell 1
  simp only [List.getElem?_toArray, List.getElem?_cons_zero, List.getElem?_cons_succ] at d0 d1
  have q : ∀ m, RD W0 b s j k p nm tx v l (w1.drewN m) := fun m => R2.out.drewN m
  have Q := hid q
  clear q
  by_cases h1 : i < j
  · have h1' : (i : Int) < (j : Int) := by omega
    by_cases h2 : j < s.size
    · have h2' : (j : Int) < (s.size : Int) := by omega
      cases h3 : L.thereB s j [62] with
      | true =>
        have H3 : Hid (L.thereB s j (ByteArray.mk #[62]).data.toList = true) := h3
        have HM : Hid (L.moreB s i j = false) := by show _ = _; simp [L.moreB, h3]
        clear h3
        go_wp2_with fail
        go_quiet (first | (go_at_call 157; refine Calls.quiet_of (sees_b (hid (Q.out _)) j2 _ true H3)))
        go_wp2
        go_ret
        exact ⟨by rw [HM.out]; rfl, Q.out _⟩
      | false =>
        have H3 : Hid (L.thereB s j (ByteArray.mk #[62]).data.toList = false) := h3
        cases h4 : L.thereB s j [47, 62] with
        | true =>
          have HM : Hid (L.moreB s i j = false) := by show _ = _; simp [L.moreB, h4]
          have a3 : L.thereB s j (ByteArray.mk #[62]).data.toList = false := h3
          have a4 : L.thereB s j (ByteArray.mk #[47, 62]).data.toList = true := h4
          clear H3
          go_wp2_with fail
          go_quiet (first | (go_at_call 157; refine Calls.quiet_of (sees_any (hid (Q.out _)) j2 _)))
          go_wp2
          go_ret
          exact ⟨by rw [HM.out]; rfl, Q.out _⟩
        | false =>
          have HM : Hid (L.moreB s i j = true) := by show _ = _; simp [L.moreB, h1, h2, h3, h4]
          have a3 : L.thereB s j (ByteArray.mk #[62]).data.toList = false := h3
          have a4 : L.thereB s j (ByteArray.mk #[47, 62]).data.toList = false := h4
          clear H3
          go_wp2_with fail
          go_quiet (first | (go_at_call 157; refine Calls.quiet_of (sees_any (hid (Q.out _)) j2 _)))
          go_wp2
          go_ret
          exact ⟨by rw [HM.out]; rfl, Q.out _⟩
    · have h2' : decide ((j : Int) < (s.size : Int)) = false := by simp; omega
      have HM : Hid (L.moreB s i j = false) := by show _ = _; simp [L.moreB, h2]
      go_wp2_with fail
      go_quiet (fail)
      go_wp2
      go_ret
      exact ⟨by rw [HM.out]; rfl, Q.out _⟩
  · have h1' : decide ((i : Int) < (j : Int)) = false := by simp; omega
    have HM : Hid (L.moreB s i j = false) := by show _ = _; simp [L.moreB, h1]
    go_wp2_with fail
    go_quiet (fail)
    go_wp2
    go_ret
    exact ⟨by rw [HM.out]; rfl, Q.out _⟩
end
end Go.Proofs.YtmnegpdegfianaaGreatDoor
