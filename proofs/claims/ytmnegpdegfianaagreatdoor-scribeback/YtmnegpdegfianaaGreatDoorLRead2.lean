/- The walks of the reader's blanks, word, find: places go on as the plain functions say. -/
import Derived.Test.YtmnegpdegfianaaGreatDoorLRead
namespace Go.Proofs.YtmnegpdegfianaaGreatDoor
open Go.RowKit
theorem ib_any (t : ByteArray) (c z : Int) (w : World) (H : Hid (Lib.indexByte t.data.toList c.toNat.toUInt8 = z)) : Calls Tryz.prog 159 #[.string t, .int .u8 c] w fun e w' => e = .returned (.int .i64 z) ∧ w' = w := by
  have h := indexByte_any t c w
  rw [H.out] at h
  exact h
theorem byte_self (c : UInt8) : ((c.toNat : Int)).toNat.toUInt8 = c := by simp
theorem blank_ix (c : UInt8) (h : L.blankB c = true) : 0 ≤ Lib.indexByte [32, 9, 10] c := by
  simp only [L.blankB, Bool.or_eq_true, beq_iff_eq] at h
  rcases h with (rfl | rfl) | rfl <;> decide
theorem blank_ix' (c : UInt8) (h : L.blankB c = false) : Lib.indexByte [32, 9, 10] c = -1 := by
  simp only [L.blankB, Bool.or_eq_false_iff, beq_eq_false_iff_ne, ne_eq] at h
  obtain ⟨⟨h1, h2⟩, h3⟩ := h
  simp [Lib.indexByte, Ne.symm h1, Ne.symm h2, Ne.symm h3]
theorem word_ix (c : UInt8) (h : L.wordB c = false) : 0 ≤ Lib.indexByte [32, 9, 10, 61, 62, 60, 47, 34] c := by
  have : c = 32 ∨ c = 9 ∨ c = 10 ∨ c = 61 ∨ c = 62 ∨ c = 60 ∨ c = 47 ∨ c = 34 := by
    simp only [L.wordB, L.blankB, Bool.and_eq_false_iff, Bool.not_eq_false', Bool.or_eq_true, beq_iff_eq, bne_eq_false_iff_eq] at h
    rcases h with ((((((h | h) | h) | h) | h) | h) | h) | h <;> simp [h]
  rcases this with rfl | rfl | rfl | rfl | rfl | rfl | rfl | rfl <;> decide
theorem word_ix' (c : UInt8) (h : L.wordB c = true) : Lib.indexByte [32, 9, 10, 61, 62, 60, 47, 34] c = -1 := by
  simp only [L.wordB, L.blankB, Bool.and_eq_true, Bool.not_eq_true', Bool.or_eq_false_iff, beq_eq_false_iff_ne, bne_iff_ne, ne_eq] at h
  obtain ⟨⟨⟨⟨⟨⟨⟨h1, h2⟩, h3⟩, h4⟩, h5⟩, h6⟩, h7⟩, h8⟩ := h
  simp [Lib.indexByte, Ne.symm h1, Ne.symm h2, Ne.symm h3, Ne.symm h4, Ne.symm h5, Ne.symm h6, Ne.symm h7, Ne.symm h8]
/-- The place at which the reader at block b stands. -/
def atOf (b : Nat) (w : World) : Nat := match w.cell? ⟨b, 1, none⟩ with | some v => (intOf v).toNat | none => 0
section
variable {W0 : Base} {b : Nat} {s : ByteArray} {i : Nat} {k : Int} {p : Nat} {nm tx : ByteArray} {v : Value} {l : List L.Attr} {w : World}
theorem RD.atOf (h : RD W0 b s i k p nm tx v l w) : atOf b w = i := by
  unfold Go.Proofs.YtmnegpdegfianaaGreatDoor.atOf
  rw [h.cell 1]
  simp [intOf]

set_option maxRecDepth 100000 in
set_option maxHeartbeats 400000 in
theorem blanks_any (R : Hid (RD W0 b s i k p nm tx v l w)) (hi : i ≤ s.size) (hz : s.size ≤ 140737488351232) :
    Calls Tryz.prog 124 #[.pointer (some ⟨b, 0, none⟩)] w fun e w' => e = .returned (.int .i64 0) ∧ RD W0 b s (L.runP L.blankB s i) k p nm tx v l w' := by
  go_enter Tryz.func124, Tryz.ntmps124
  go_wp2
  go_loopw [3] (fun _ W => ∃ (j : Nat), j ≤ s.size ∧ Hid (L.runP L.blankB s i = L.runP L.blankB s j) ∧ Hid (RD W0 b s j k p nm tx v l W)) (fun _ W => s.size - atOf b W)
  case atStart => exact ⟨i, hi, rfl, R⟩
  case round =>
    obtain ⟨j, hj, HJ, RJ⟩ := hrel
    rename_i W
    have c0 := RJ.out.cell 0
    have c1 := RJ.out.cell 1
    have f1 := RJ.out.frozen 1
    simp only [List.getElem?_toArray, List.getElem?_cons_zero, List.getElem?_cons_succ] at c0 c1
    by_cases h : j < s.size
    · have h' : (j : Int) < (s.size : Int) := by omega
      cases hb : L.blankB s[j] with
      | true =>
        obtain ⟨z, HZ, hz0⟩ : ∃ z, Hid (Lib.indexByte [32, 9, 10] s[j] = z) ∧ 0 ≤ z := ⟨_, hid rfl, blank_ix _ hb⟩
        have HY : Hid (Lib.indexByte (ByteArray.mk #[32, 9, 10]).data.toList ((s[j].toNat : Int)).toNat.toUInt8 = z) := by show _ = _; rw [byte_self]; exact HZ.out
        have HJ2 : Hid (L.runP L.blankB s i = L.runP L.blankB s (j + 1)) := by show _ = _; rw [HJ.out, L.run_yes h hb]
        clear HJ hb
        go_wp2_with fail
        go_quiet (first | (go_at_call 159; refine Calls.quiet_of_same (ib_any _ _ z _ HY)))
        go_wp2
        go_roundw
        case rel => exact ⟨j + 1, by omega, HJ2, (RJ.out.drewN _).set 1 _ (by go_num)⟩
        case measure =>
          have m1 := RJ.out.atOf
          have m2 := ((RJ.out.drewN nq).set 1 (.int .i64 ((j : Int) + 1)) (s' := s) (i' := j + 1) (k' := k) (p' := p) (nm' := nm) (tx' := tx) (by go_num)).atOf
          rw [m1]
          first | (rw [m2]; omega) | trace_state
      | false =>
        have HY : Hid (Lib.indexByte (ByteArray.mk #[32, 9, 10]).data.toList ((s[j].toNat : Int)).toNat.toUInt8 = -1) := by show _ = _; rw [byte_self]; exact blank_ix' _ hb
        have HJ2 : Hid (L.runP L.blankB s i = j) := by show _ = _; rw [HJ.out, L.run_no h hb]
        clear HJ hb
        go_wp2_with fail
        go_quiet (first | (go_at_call 159; refine Calls.quiet_of_same (ib_any _ _ (-1) _ HY)))
        go_wp2
        go_ret
        exact ⟨rfl, by rw [HJ2.out]; exact RJ.out.drewN _⟩
    · have h' : decide ((j : Int) < (s.size : Int)) = false := by simp; omega
      have HJ2 : Hid (L.runP L.blankB s i = j) := by show _ = _; rw [HJ.out, L.run_end (by omega)]
      clear HJ
      go_wp2_with fail
      go_quiet (fail)
      go_wp2
      go_ret
      exact ⟨rfl, by rw [HJ2.out]; exact RJ.out.drewN _⟩
set_option maxRecDepth 100000 in
set_option maxHeartbeats 400000 in
theorem word_any (R : Hid (RD W0 b s i k p nm tx v l w)) (hi : i ≤ s.size) (hz : s.size ≤ 140737488351232) :
    Calls Tryz.prog 158 #[.pointer (some ⟨b, 0, none⟩)] w fun e w' => e = .returned (.string (s.extract i (L.runP L.wordB s i))) ∧ ∃ m, w' = w.drewN m := by
  have c0 := R.out.cell 0
  have c1 := R.out.cell 1
  simp only [List.getElem?_toArray, List.getElem?_cons_zero, List.getElem?_cons_succ] at c0 c1
  go_enter Tryz.func158, Tryz.ntmps158
  go_wp2
  go_loop [3] (fun v3 => ∃ (j : Nat), v3 = .int .i64 (j : Int) ∧ i ≤ j ∧ j ≤ s.size ∧ Hid (L.runP L.wordB s i = L.runP L.wordB s j)) (fun v3 => s.size - (intOf v3).toNat)
  case atStart => exact ⟨i, rfl, Nat.le_refl _, hi, rfl⟩
  case round =>
    obtain ⟨j, rfl, hij, hj, HJ⟩ := hrel
    by_cases h : j < s.size
    · cases hb : L.wordB s[j] with
      | false =>
        obtain ⟨z, HZ, hz0⟩ : ∃ z, Hid (Lib.indexByte [32, 9, 10, 61, 62, 60, 47, 34] s[j] = z) ∧ 0 ≤ z := ⟨_, hid rfl, word_ix _ hb⟩
        have HY : Hid (Lib.indexByte (ByteArray.mk #[32, 9, 10, 61, 62, 60, 47, 34]).data.toList ((s[j].toNat : Int)).toNat.toUInt8 = z) := by show _ = _; rw [byte_self]; exact HZ.out
        have HJ2 : Hid (L.runP L.wordB s i = j) := by show _ = _; rw [HJ.out, L.run_no h hb]
        clear HJ hb
        go_wp2_with fail
        refine (ib_any _ _ z _ HY).mono ?_
        rintro e w1 ⟨rfl, rfl⟩
        go_wp2
        go_quiet (fail)
        go_wp2
        go_ret
        exact ⟨by rw [HJ2.out]; rfl, _, rfl⟩
      | true =>
        have HY : Hid (Lib.indexByte (ByteArray.mk #[32, 9, 10, 61, 62, 60, 47, 34]).data.toList ((s[j].toNat : Int)).toNat.toUInt8 = -1) := by show _ = _; rw [byte_self]; exact word_ix' _ hb
        have HJ2 : Hid (L.runP L.wordB s i = L.runP L.wordB s (j + 1)) := by show _ = _; rw [HJ.out, L.run_yes h hb]
        clear HJ hb
        go_wp2_with fail
        refine (ib_any _ _ (-1) _ HY).mono ?_
        rintro e w1 ⟨rfl, rfl⟩
        go_wp2
        go_round
        case rel => exact ⟨j + 1, by go_num, by omega, by omega, HJ2⟩
        case measure => simp [intOf]; omega
    · have HJ2 : Hid (L.runP L.wordB s i = j) := by show _ = _; rw [HJ.out, L.run_end (by omega)]
      clear HJ
      go_wp2
      go_quiet (fail)
      go_wp2
      go_ret
      exact ⟨by rw [HJ2.out]; rfl, _, rfl⟩
theorem index_run (c : UInt8) : ∀ (t : List UInt8), (c ∈ t → Lib.indexByte t c = ((t.takeWhile (L.notB c)).length : Int)) ∧ (c ∉ t → Lib.indexByte t c = -1 ∧ (t.takeWhile (L.notB c)).length = t.length)
  | [] => by simp [Lib.indexByte]
  | d :: t => by
    obtain ⟨h1, h2⟩ := index_run c t
    by_cases hd : d = c
    · subst hd
      simp [Lib.indexByte, L.notB]
    · have hn : L.notB c d = true := by simp [L.notB, hd]
      constructor
      · intro hm
        have hm' : c ∈ t := by rcases List.mem_cons.1 hm with q | q; exact absurd q.symm hd; exact q
        have := h1 hm'
        simp only [Lib.indexByte, hd, beq_iff_eq, if_false, List.takeWhile_cons_of_pos hn, List.length_cons]
        rw [this]
        simp
      · intro hm
        have hm' : c ∉ t := fun q => hm (List.mem_cons_of_mem _ q)
        obtain ⟨h3, h4⟩ := h2 hm'
        simp [Lib.indexByte, hd, h3, List.takeWhile_cons_of_pos hn, h4]
theorem find_run (s : ByteArray) (f : Nat) (hf : f ≤ s.size) (c : UInt8) : (Lib.indexByte (s.extract f s.size).data.toList c = ((L.runP (L.notB c) s f - f : Nat) : Int)) ∨ (Lib.indexByte (s.extract f s.size).data.toList c = -1 ∧ L.runP (L.notB c) s f = s.size) := by
  obtain ⟨h1, h2⟩ := index_run c (s.data.toList.drop f)
  rw [drop_eq]
  by_cases h : c ∈ s.data.toList.drop f
  · left
    rw [h1 h]
    unfold L.runP
    congr 1
    omega
  · right
    obtain ⟨h3, h4⟩ := h2 h
    refine ⟨h3, ?_⟩
    unfold L.runP
    rw [h4]
    simp
    omega
set_option maxRecDepth 100000 in
set_option maxHeartbeats 400000 in
theorem find_any (R : Hid (RD W0 b s i k p nm tx v l w)) (hz : s.size ≤ 140737488351232) (c : UInt8) (f : Nat) (hf : f ≤ s.size) :
    Calls Tryz.prog 168 #[.pointer (some ⟨b, 0, none⟩), .int .u8 (c.toNat : Int), .int .i64 (f : Int)] w fun e w' => e = .returned (.int .i64 (L.runP (L.notB c) s f : Int)) ∧ w' = w := by
  have c0 := R.out.cell 0
  simp only [List.getElem?_toArray, List.getElem?_cons_zero] at c0
  have hg := L.run_ge (L.notB c) s f
  have hl := L.run_le (p := L.notB c) hf
  rcases find_run s f hf c with h | ⟨h, h'⟩
  · generalize L.runP (L.notB c) s f = r at *
    have HY : Hid (Lib.indexByte (s.extract f s.size).data.toList ((c.toNat : Int)).toNat.toUInt8 = ((r - f : Nat) : Int)) := by show _ = _; rw [byte_self]; exact h
    clear h
    obtain ⟨q, HQ⟩ : ∃ q : Nat, Hid (q = r - f) := ⟨_, hid rfl⟩
    have HR : Hid (r = f + q) := by show _ = _; rw [HQ.out]; omega
    rw [← HQ.out] at HY
    have hq : f + q ≤ s.size := by rw [← HR.out]; exact hl
    clear hg hl
    go_enter Tryz.func168, Tryz.ntmps168
    go_wp2_with fail
    refine (ib_any _ _ (q : Int) _ HY).mono ?_
    rintro e w1 ⟨rfl, rfl⟩
    go_wp2
    go_ret
    refine ⟨?_, rfl⟩
    rw [HR.out]
    go_num
  · have HY : Hid (Lib.indexByte (s.extract f s.size).data.toList ((c.toNat : Int)).toNat.toUInt8 = -1) := by show _ = _; rw [byte_self]; exact h
    have HR := hid h'
    clear h h' hg hl
    go_enter Tryz.func168, Tryz.ntmps168
    go_wp2_with fail
    refine (ib_any _ _ (-1) _ HY).mono ?_
    rintro e w1 ⟨rfl, rfl⟩
    go_wp2
    go_ret
    refine ⟨?_, rfl⟩
    rw [HR.out]
    rfl
end
end Go.Proofs.YtmnegpdegfianaaGreatDoor
