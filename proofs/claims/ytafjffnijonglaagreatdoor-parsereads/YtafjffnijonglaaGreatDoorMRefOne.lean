/- The walk of the document's own One. -/
import Derived.Test.YtafjffnijonglaaGreatDoorLFacts3
import Derived.Test.YtafjffnijonglaaGreatDoorLRead
import Derived.Test.YtafjffnijonglaaGreatDoorERUndo
import Derived.Test.YtafjffnijonglaaGreatDoorLAlive
import Derived.Test.YtafjffnijonglaaGreatDoorLAll
namespace Go.Proofs.YtafjffnijonglaaGreatDoor
namespace L
open G E
/-- The attributes, kept in rising order all the while, as the document has it. -/
theorem any_perm {l m : List Attr} (h : l.Perm m) (p : Attr → Bool) : l.any p = m.any p := by
  cases hp : m.any p
  · rw [List.any_eq_false] at *
    exact fun x hx => hp x (h.subset hx)
  · rw [List.any_eq_true] at *
    obtain ⟨x, hx, h1⟩ := hp
    exact ⟨x, h.symm.subset hx, h1⟩
theorem attr_perm (s : ByteArray) (i : Nat) {l m : List Attr} (h : l.Perm m) : attrP s i l = attrP s i m := by
  unfold attrP
  simp only
  rw [h.length_eq, any_perm h]
end L
end Go.Proofs.YtafjffnijonglaaGreatDoor
namespace Go.Proofs.YtafjffnijonglaaGreatDoor
open Go.RowKit
theorem byte_num (c d : UInt8) : ((c.toNat : Int) == (d.toNat : Int)) = (c == d) := by
  by_cases h : c = d
  · subst h; simp
  · have : (c.toNat : Int) ≠ (d.toNat : Int) := fun q => h (UInt8.toNat_inj.1 (by omega))
    rw [beq_eq_false_iff_ne.2 this, beq_eq_false_iff_ne.2 h]
set_option maxHeartbeats 400000 in
theorem rblank_any (c : UInt8) (b : Bool) (w : World) (H : Hid (L.blankB c = b)) :
    Calls Tryz.prog 64 #[.int .u8 (c.toNat : Int)] w fun e w' => e = .returned (.bool b) ∧ w' = w := by
  have n1 : ((c.toNat : Int) == 32) = (c == 32) := byte_num c 32
  have n2 : ((c.toNat : Int) == 9) = (c == 9) := byte_num c 9
  have n3 : ((c.toNat : Int) == 10) = (c == 10) := byte_num c 10
  have HB : Hid (((c == 32) || (c == 9) || (c == 10)) = b) := H
  cases h1 : (c == 32)
  · cases h2 : (c == 9)
    · have HC : Hid ((c == 10) = b) := hid (by have := HB.out; rw [h1, h2] at this; simpa using this)
      rw [h1] at n1
      rw [h2] at n2
      rw [HC.out] at n3
      clear h1 h2
      generalize (c.toNat : Int) = x at *
      go_enter Tryz.func64, Tryz.ntmps64
      go_wp2
      go_ret
      exact ⟨rfl, rfl⟩
    · have HC : Hid (b = true) := hid (by have := HB.out; rw [h1, h2] at this; simpa using this.symm)
      have e := HC.out
      subst e
      rw [h1] at n1
      rw [h2] at n2
      clear h1 h2 n3
      generalize (c.toNat : Int) = x at *
      go_enter Tryz.func64, Tryz.ntmps64
      go_wp2
      go_ret
      exact ⟨rfl, rfl⟩
  · have HC : Hid (b = true) := hid (by have := HB.out; rw [h1] at this; simpa using this.symm)
    have e := HC.out
    subst e
    rw [h1] at n1
    clear h1 n2 n3
    generalize (c.toNat : Int) = x at *
    go_enter Tryz.func64, Tryz.ntmps64
    go_wp2
    go_ret
    exact ⟨rfl, rfl⟩
set_option maxRecDepth 100000 in
set_option maxHeartbeats 400000 in
theorem rskip_any (s : ByteArray) (i j : Nat) (w : World) (hi : i ≤ s.size) (hz : s.size ≤ 140737488351232) (H : Hid (L.runP L.blankB s i = j)) :
    Calls Tryz.prog 43 #[.string s, .int .i64 (i : Int)] w fun e w' => e = .returned (.int .i64 (j : Int)) ∧ w' = w := by
  go_enter Tryz.func43, Tryz.ntmps43
  go_wp2
  go_loop [1] (fun v1 => ∃ (q : Nat), v1 = .int .i64 (q : Int) ∧ q ≤ s.size ∧ Hid (L.runP L.blankB s q = j)) (fun v1 => s.size - (intOf v1).toNat)
  case atStart => exact ⟨i, rfl, hi, H⟩
  case round =>
    clear H hi
    obtain ⟨q, rfl, hq, H⟩ := hrel
    by_cases h : q < s.size
    · cases hb : L.blankB s[q] with
      | true =>
        have HJ : Hid (L.runP L.blankB s (q + 1) = j) := by show _ = _; rw [← H.out, L.run_yes h hb]
        have HB := hid hb
        clear H hb
        go_wp2_with fail
        refine (rblank_any _ true _ HB).mono ?_
        rintro e w1 ⟨rfl, rfl⟩
        go_wp2
        go_round
        case rel => exact ⟨q + 1, by go_num, by omega, HJ⟩
        case measure => simp [intOf]; omega
      | false =>
        have HJ : Hid (j = q) := by show _ = _; rw [← H.out, L.run_no h hb]
        have HB := hid hb
        clear H hb
        go_wp2_with fail
        refine (rblank_any _ false _ HB).mono ?_
        rintro e w1 ⟨rfl, rfl⟩
        go_wp2
        go_ret
        exact ⟨by rw [HJ.out]; rfl, rfl⟩
    · have HJ : Hid (j = q) := by show _ = _; rw [← H.out, L.run_end (by omega)]
      go_wp2
      go_ret
      exact ⟨by rw [HJ.out]; rfl, rfl⟩
theorem num_ne (c d : UInt8) : ((c.toNat : Int) != (d.toNat : Int)) = (c != d) := by
  unfold bne
  rw [byte_num]
theorem word_cases (c : UInt8) (h : L.wordB c = false) : L.blankB c = true ∨ (L.blankB c = false ∧ (((c.toNat : Int) != 61) = false ∨ (((c.toNat : Int) != 61) = true ∧ ((c.toNat : Int) != 62) = false) ∨ (((c.toNat : Int) != 61) = true ∧ ((c.toNat : Int) != 62) = true ∧ ((c.toNat : Int) != 60) = false) ∨
    (((c.toNat : Int) != 61) = true ∧ ((c.toNat : Int) != 62) = true ∧ ((c.toNat : Int) != 60) = true ∧ ((c.toNat : Int) != 47) = false) ∨ (((c.toNat : Int) != 61) = true ∧ ((c.toNat : Int) != 62) = true ∧ ((c.toNat : Int) != 60) = true ∧ ((c.toNat : Int) != 47) = true ∧ ((c.toNat : Int) != 34) = false))) := by
  have n1 : ((c.toNat : Int) != 61) = (c != 61) := num_ne c 61
  have n2 : ((c.toNat : Int) != 62) = (c != 62) := num_ne c 62
  have n3 : ((c.toNat : Int) != 60) = (c != 60) := num_ne c 60
  have n4 : ((c.toNat : Int) != 47) = (c != 47) := num_ne c 47
  have n5 : ((c.toNat : Int) != 34) = (c != 34) := num_ne c 34
  rw [n1, n2, n3, n4, n5]
  unfold L.wordB at h
  generalize L.blankB c = a0 at *
  generalize (c != 61) = a1 at *
  generalize (c != 62) = a2 at *
  generalize (c != 60) = a3 at *
  generalize (c != 47) = a4 at *
  generalize (c != 34) = a5 at *
  clear n1 n2 n3 n4 n5
  revert h
  cases a0 <;> cases a1 <;> cases a2 <;> cases a3 <;> cases a4 <;> cases a5 <;> simp
theorem word_yes {c : UInt8} (h : L.wordB c = true) : L.blankB c = false ∧ ((c.toNat : Int) != 61) = true ∧ ((c.toNat : Int) != 62) = true ∧ ((c.toNat : Int) != 60) = true ∧ ((c.toNat : Int) != 47) = true ∧ ((c.toNat : Int) != 34) = true := by
  have n1 : ((c.toNat : Int) != 61) = (c != 61) := num_ne c 61
  have n2 : ((c.toNat : Int) != 62) = (c != 62) := num_ne c 62
  have n3 : ((c.toNat : Int) != 60) = (c != 60) := num_ne c 60
  have n4 : ((c.toNat : Int) != 47) = (c != 47) := num_ne c 47
  have n5 : ((c.toNat : Int) != 34) = (c != 34) := num_ne c 34
  rw [n1, n2, n3, n4, n5]
  unfold L.wordB at h
  simp only [Bool.and_eq_true, Bool.not_eq_true'] at h
  obtain ⟨⟨⟨⟨⟨h1, h2⟩, h3⟩, h4⟩, h5⟩, h6⟩ := h
  exact ⟨h1, h2, h3, h4, h5, h6⟩
set_option maxRecDepth 100000 in
set_option maxHeartbeats 2000000 in
theorem rword_any (s : ByteArray) (i j : Nat) (w : World) (hi : i ≤ s.size) (hz : s.size ≤ 140737488351232) (H : Hid (L.runP L.wordB s i = j)) :
    Calls Tryz.prog 40 #[.string s, .int .i64 (i : Int)] w fun e w' => e = .returned (.int .i64 (j : Int)) ∧ w' = w := by
  go_enter Tryz.func40, Tryz.ntmps40
  go_wp2
  go_loop [1] (fun v1 => ∃ (q : Nat), v1 = .int .i64 (q : Int) ∧ q ≤ s.size ∧ Hid (L.runP L.wordB s q = j)) (fun v1 => s.size - (intOf v1).toNat)
  case atStart => exact ⟨i, rfl, hi, H⟩
  case round =>
    clear H hi
    obtain ⟨q, rfl, hq, H⟩ := hrel
    by_cases h : q < s.size
    · cases hb : L.wordB s[q] with
      | true =>
        have HJ : Hid (L.runP L.wordB s (q + 1) = j) := by show _ = _; rw [← H.out, L.run_yes h hb]
        obtain ⟨b0, b1, b2, b3, b4, b5⟩ := word_yes hb
        have HB := hid b0
        clear H hb b0
        go_wp2_with fail
        refine (rblank_any _ false _ HB).mono ?_
        rintro e w1 ⟨rfl, rfl⟩
        go_wp2
        go_round
        case rel => exact ⟨q + 1, by go_num, by omega, HJ⟩
        case measure => simp [intOf]; omega
      | false =>
        have HJ : Hid (j = q) := by show _ = _; rw [← H.out, L.run_no h hb]
        rcases word_cases _ hb with b0 | ⟨b0, b1⟩
        · have HB := hid b0
          clear H hb b0
          go_wp2_with fail
          refine (rblank_any _ true _ HB).mono ?_
          rintro e w1 ⟨rfl, rfl⟩
          go_wp2
          go_ret
          exact ⟨by rw [HJ.out]; rfl, rfl⟩
        · have HB := hid b0
          clear H hb b0
          rcases b1 with b1 | ⟨b1, b2⟩ | ⟨b1, b2, b3⟩ | ⟨b1, b2, b3, b4⟩ | ⟨b1, b2, b3, b4, b5⟩
          all_goals
            go_wp2_with fail
            refine (rblank_any _ false _ HB).mono ?_
            rintro e w1 ⟨rfl, rfl⟩
            go_wp2
            go_ret
            exact ⟨by rw [HJ.out]; rfl, rfl⟩
    · have HJ : Hid (j = q) := by show _ = _; rw [← H.out, L.run_end (by omega)]
      go_wp2
      go_ret
      exact ⟨by rw [HJ.out]; rfl, rfl⟩
set_option maxRecDepth 100000 in
set_option maxHeartbeats 400000 in
theorem rfind_any (s : ByteArray) (c : UInt8) (i j : Nat) (w : World) (hi : i ≤ s.size) (hz : s.size ≤ 140737488351232) (H : Hid (L.runP (L.notB c) s i = j)) :
    Calls Tryz.prog 45 #[.string s, .int .i64 (i : Int), .int .u8 (c.toNat : Int)] w fun e w' => e = .returned (.int .i64 (j : Int)) ∧ w' = w := by
  go_enter Tryz.func45, Tryz.ntmps45
  go_wp2
  go_loop [1] (fun v1 => ∃ (q : Nat), v1 = .int .i64 (q : Int) ∧ q ≤ s.size ∧ Hid (L.runP (L.notB c) s q = j)) (fun v1 => s.size - (intOf v1).toNat)
  case atStart => exact ⟨i, rfl, hi, H⟩
  case round =>
    clear H hi
    obtain ⟨q, rfl, hq, H⟩ := hrel
    by_cases h : q < s.size
    · have n1 := byte_num s[q] c
      cases hb : (s[q] == c) with
      | false =>
        have HJ : Hid (L.runP (L.notB c) s (q + 1) = j) := by show _ = _; rw [← H.out, L.run_yes h (by unfold L.notB bne; rw [hb]; rfl)]
        rw [hb] at n1
        clear H hb
        go_wp2
        go_round
        case rel => exact ⟨q + 1, by go_num, by omega, HJ⟩
        case measure => simp [intOf]; omega
      | true =>
        have HJ : Hid (j = q) := by show _ = _; rw [← H.out, L.run_no h (by unfold L.notB bne; rw [hb]; rfl)]
        rw [hb] at n1
        clear H hb
        go_wp2
        go_ret
        exact ⟨by rw [HJ.out]; rfl, rfl⟩
    · have HJ : Hid (j = q) := by show _ = _; rw [← H.out, L.run_end (by omega)]
      go_wp2
      go_ret
      exact ⟨by rw [HJ.out]; rfl, rfl⟩
set_option maxRecDepth 100000 in
set_option maxHeartbeats 400000 in
theorem rthere_any (s : ByteArray) (i : Nat) (t : ByteArray) (b : Bool) (w : World) (hz : s.size ≤ 140737488351232) (hi : i ≤ s.size + 2) (ht : 0 < t.size) (H : Hid (L.thereB s i t.data.toList = b)) :
    Calls Tryz.prog 25 #[.string s, .int .i64 (i : Int), .string t] w fun e w' => e = .returned (.bool b) ∧ w' = w := by
  by_cases h : i + t.size ≤ s.size
  · have HE : Hid (((s.extract i (i + t.size)).toList == t.toList) = b) := by
      show _ = _
      rw [← H.out]
      unfold L.thereB
      rw [ByteArray.toList_eq, ByteArray.toList_eq, Lib.extract_data]
      have e : i + t.size - i = t.data.toList.length := by simp
      rw [e]
      cases hp : t.data.toList.isPrefixOf (s.data.toList.drop i)
      · rw [beq_eq_false_iff_ne]
        intro q
        rw [← Bool.not_eq_true, List.isPrefixOf_iff_prefix] at hp
        exact hp ⟨_, (by rw [← q]; exact List.take_append_drop _ _)⟩
      · rw [List.isPrefixOf_iff_prefix] at hp
        obtain ⟨r, hr⟩ := hp
        rw [← hr]
        simp
    have h1 : (i : Int) + (t.size : Int) ≤ (s.size : Int) := by omega
    go_enter Tryz.func25, Tryz.ntmps25
    go_wp2
    go_ret
    exact ⟨ret_bool HE.out, rfl⟩
  · have HB : Hid (b = false) := by
      show _ = _
      rw [← H.out]
      cases hp : L.thereB s i t.data.toList
      · rfl
      · have := L.there_len hp
        simp at this
        omega
    have h1 : ¬ ((i : Int) + (t.size : Int) ≤ (s.size : Int)) := by omega
    go_enter Tryz.func25, Tryz.ntmps25
    go_wp2
    go_ret
    exact ⟨ret_bool HB.out.symm, rfl⟩
end Go.Proofs.YtafjffnijonglaaGreatDoor
namespace Go.Proofs.YtafjffnijonglaaGreatDoor
open Go.RowKit Go.Shelf
theorem att_cells {base : Nat} {l : List L.Attr} {w : World} {g cap : Nat} (h : w.ownsRow base 67 2 (.slice (some ⟨g, 0, none⟩) l.length cap) l.length (encL l)) (j : Nat) (hj : j < l.length) :
    w.cell? ⟨g, j * 2, none⟩ = some (.string l[j].1) ∧ w.cell? ⟨g, j * 2 + 1, none⟩ = some (.string l[j].2) := by
  obtain ⟨h0, h1⟩ := encL_at l j hj
  have c := fun q hq => World.ownsRow.cellAt h q hq
  exact ⟨by rw [c _ (by omega)]; exact h0, by rw [c _ (by omega)]; exact h1⟩
theorem att_len {base : Nat} {v : Value} {l : List L.Attr} {w : World} (h : w.ownsRow base 67 2 v l.length (encL l)) : ∃ ao cp, v = .slice ao l.length cp := by
  rcases h.2 with ⟨h, h'⟩ | ⟨_, _, _, h, _⟩
  · exact ⟨none, 0, by rw [h, h']⟩
  · exact ⟨_, _, h⟩
set_option maxRecDepth 100000 in
set_option maxHeartbeats 1000000 in
theorem sameA_any (v v' : Value) (l : List L.Attr) (w : World) (b1 b2 : Nat) (h1 : w.ownsRow b1 67 2 v l.length (encL l)) (h2 : w.ownsRow b2 67 2 v' l.length (encL l)) (hl : l.length ≤ 20) :
    Calls Tryz.prog 16 #[v, v'] w fun e w' => e = .returned (.bool true) ∧ Below w.heap.size w w' := by
  obtain ⟨ao, cp, rfl⟩ := att_len h1
  obtain ⟨ao', cp', rfl⟩ := att_len h2
  have H1 := hid h1
  have H2 := hid h2
  clear h1 h2
  go_enter Tryz.func16, Tryz.ntmps16
  go_wp2
  go_loopw [5] (fun v5 W => ∃ (k m : Nat), v5 = .int .i64 (k : Int) ∧ k ≤ l.length ∧ W = w.drewN m) (fun v5 _ => l.length - (intOf v5).toNat)
  case atStart => exact ⟨0, 0, rfl, by omega, rfl⟩
  case round =>
    obtain ⟨k, m, rfl, hk, rfl⟩ := hrel
    by_cases h : k < l.length
    · obtain ⟨g, cap, e1, _⟩ := att_form H1.out (by intro q; rw [q] at h; simp at h)
      obtain ⟨g', cap', e2, _⟩ := att_form H2.out (by intro q; rw [q] at h; simp at h)
      simp only [Value.slice.injEq, true_and] at e1 e2
      obtain ⟨rfl, rfl⟩ := e1
      obtain ⟨rfl, rfl⟩ := e2
      obtain ⟨c0, c1⟩ := att_cells H1.out k h
      obtain ⟨d0, d1⟩ := att_cells H2.out k h
      have h' : (k : Int) < (l.length : Int) := by omega
      generalize l[k].1 = x at *
      generalize l[k].2 = y at *
      go_wp2_with fail
      go_quiet (fail)
      go_wp2
      go_roundw
      case rel => exact ⟨k + 1, _, by go_num, by omega, rfl⟩
      case measure => simp [intOf]; omega
    · have h' : ¬ (k : Int) < (l.length : Int) := by omega
      go_wp2
      go_ret
      exact ⟨rfl, ⟨rfl, rfl, rfl, Nat.le_refl _, fun _ _ => rfl⟩⟩

end Go.Proofs.YtafjffnijonglaaGreatDoor
namespace Go.Proofs.YtafjffnijonglaaGreatDoor
open Go.RowKit Go.Shelf
/-- A state of the document's reader. -/
def stV (n kd ps : Int) (nm tx : ByteArray) (v : Value) (bad e : Int) : Value := .agg #[.int .i64 n, .int .i64 kd, .int .i64 ps, .string nm, .string tx, v, .int .i64 bad, .int .i64 e]
def badV (q e0 : Int) : Value := stV 0 0 0 ⟨#[]⟩ ⟨#[]⟩ (.slice none 0 0) q e0
def zeroS : Obj := .cells #[.int .i64 0, .int .i64 0, .int .i64 0, .string ⟨#[]⟩, .string ⟨#[]⟩, .slice none 0 0, .int .i64 0, .int .i64 0] 63 (0, 0)
def StPost (w : World) (res : Except L.Bad (L.Tok × Nat)) (e : Ending) (w' : World) : Prop :=
  Below w.heap.size w w' ∧
  ((∃ (q e0 : Int), res = .error (q, e0) ∧ e0 ≠ 0 ∧ e = .returned (badV q e0)) ∨
   (∃ (t : L.Tok) (n : Nat) (v : Value), res = .ok (t, n) ∧ e = .returned (stV n t.kind t.pos t.name t.text v 0 0) ∧ w'.ownsRow w.heap.size 67 2 v t.attrs.length (encL t.attrs)))
section
variable {w w' : World}
theorem told8 (h : Below w.heap.size w w') (a0 a1 a2 a3 a4 a5 a6 a7 : Value) : Below w.heap.size w ((((((((w'.setCell ⟨w.heap.size, 0, none⟩ a0).setCell ⟨w.heap.size, 1, none⟩ a1).setCell ⟨w.heap.size, 2, none⟩ a2).setCell ⟨w.heap.size, 3, none⟩ a3).setCell ⟨w.heap.size, 4, none⟩ a4).setCell ⟨w.heap.size, 5, none⟩ a5).setCell ⟨w.heap.size, 6, none⟩ a6).setCell ⟨w.heap.size, 7, none⟩ a7) :=
  (((((((h.setCell (p := ⟨w.heap.size, 0, none⟩) (Nat.le_refl _) a0).setCell (p := ⟨w.heap.size, 1, none⟩) (Nat.le_refl _) a1).setCell (p := ⟨w.heap.size, 2, none⟩) (Nat.le_refl _) a2).setCell (p := ⟨w.heap.size, 3, none⟩) (Nat.le_refl _) a3).setCell (p := ⟨w.heap.size, 4, none⟩) (Nat.le_refl _) a4).setCell (p := ⟨w.heap.size, 5, none⟩) (Nat.le_refl _) a5).setCell (p := ⟨w.heap.size, 6, none⟩) (Nat.le_refl _) a6).setCell (p := ⟨w.heap.size, 7, none⟩) (Nat.le_refl _) a7
theorem told8r {v : Value} {n base : Nat} {xs : List Value} (h : w'.ownsRow base 67 2 v n xs) (hb : w.heap.size < base) (a0 a1 a2 a3 a4 a5 a6 a7 : Value) : World.ownsRow ((((((((w'.setCell ⟨w.heap.size, 0, none⟩ a0).setCell ⟨w.heap.size, 1, none⟩ a1).setCell ⟨w.heap.size, 2, none⟩ a2).setCell ⟨w.heap.size, 3, none⟩ a3).setCell ⟨w.heap.size, 4, none⟩ a4).setCell ⟨w.heap.size, 5, none⟩ a5).setCell ⟨w.heap.size, 6, none⟩ a6).setCell ⟨w.heap.size, 7, none⟩ a7) w.heap.size 67 2 v n xs :=
  row_base (ownsRow_setCell_below (ownsRow_setCell_below (ownsRow_setCell_below (ownsRow_setCell_below (ownsRow_setCell_below (ownsRow_setCell_below (ownsRow_setCell_below (ownsRow_setCell_below h (a := ⟨w.heap.size, 0, none⟩) hb a0) (a := ⟨w.heap.size, 1, none⟩) hb a1) (a := ⟨w.heap.size, 2, none⟩) hb a2) (a := ⟨w.heap.size, 3, none⟩) hb a3) (a := ⟨w.heap.size, 4, none⟩) hb a4) (a := ⟨w.heap.size, 5, none⟩) hb a5) (a := ⟨w.heap.size, 6, none⟩) hb a6) (a := ⟨w.heap.size, 7, none⟩) hb a7) (Nat.le_of_lt hb)
theorem zero_kept (w : World) {w' : World} (hb : Below (w.alloc zeroS).heap.size (w.alloc zeroS) w') : w'.heap[w.heap.size]? = some zeroS := by
  rw [hb.block _ (by simp)]
  exact heap_alloc_new w _
theorem below_new (w : World) (o : Obj) {w' : World} (hb : Below (w.alloc o).heap.size (w.alloc o) w') : Below w.heap.size w w' := ((Below.refl w.heap.size w).alloc (Nat.le_refl _) o).trans (hb.mono (by simp))
end
set_option maxRecDepth 100000 in
set_option maxHeartbeats 1000000 in
theorem rfails_any (q e0 : Int) (w : World) : Calls Tryz.prog 42 #[.int .i64 q, .int .i64 e0] w fun e w' => e = .returned (badV q e0) ∧ Below w.heap.size w w' := by
  go_enter Tryz.func42, Tryz.ntmps42
  go_wp2
  refine bodyPost_ret (v := badV q e0) (by simp [results, Tryz.results42, go_sem, badV, stV]) rfl ⟨rfl, (Below.refl _ _).alloc (Nat.le_refl _) _⟩
theorem undo_pair {v : Bool} {b u : ByteArray} {n : Nat} {e : Int} (h : L.undoB v b = (u, n, e)) : E.undoL v b.data.toList = (u.data.toList, n, e) := L.undo_list h
set_option maxRecDepth 100000 in
set_option maxHeartbeats 4000000 in
theorem rtext_st (s : ByteArray) (i : Nat) (w : World) (hi : i ≤ s.size) (hz : s.size ≤ 20000) :
    Calls Tryz.prog 28 #[.string s, .int .i64 (i : Int)] w (StPost w (L.textP s i)) := by
  obtain ⟨j, HJ⟩ : ∃ j, Hid (L.runP (L.notB 60) s i = j) := ⟨_, hid rfl⟩
  have j1 : i ≤ j := by rw [← HJ.out]; exact L.run_ge _ _ _
  have j2 : j ≤ s.size := by rw [← HJ.out]; exact L.run_le hi
  obtain ⟨⟨u, n, e0⟩, HU⟩ : ∃ x, Hid (L.undoB false (s.extract i j) = x) := ⟨_, hid rfl⟩
  have HS : Hid ((s.extract i j).size ≤ 20000) := by show _ ≤ _; simp; omega
  have hn : n ≤ 20000 := Nat.le_trans (L.undo_place HU.out) HS.out
  go_enter Tryz.func28, Tryz.ntmps28
  go_wp2_with fail
  refine (rfind_any s 60 i j _ hi (by omega) HJ).mono ?_
  rintro e w1 ⟨rfl, rfl⟩
  go_wp2_with fail
  refine (rundo_any _ false u n e0 _ HS.out (hid (undo_pair HU.out))).mono ?_
  rintro e w2 ⟨rfl, hb2⟩
  have Z := hid (zero_kept w hb2)
  have HB := hid (below_new w zeroS hb2)
  clear hb2
  by_cases he : e0 = 0
  · subst he
    by_cases hl : 1500 < u.size
    · have HR : Hid (L.textP s i = .error ((i : Int), 34)) := by show _ = _; unfold L.textP; simp only; rw [HJ.out, HU.out]; simp [hl]
      go_wp2_with fail
      refine (rfails_any _ _ _).mono ?_
      rintro e w9 ⟨rfl, hb9⟩
      have Z9 := hid ((hb9.block _ (lt_of_block Z.out)).trans Z.out)
      have HB9 := hid (HB.out.trans (hb9.mono HB.out.size))
      clear hb9
      have z0 := cell_of_row w9 w.heap.size 0 _ _ _ Z9.out
      have z1 := cell_of_row w9 w.heap.size 1 _ _ _ Z9.out
      have z2 := cell_of_row w9 w.heap.size 2 _ _ _ Z9.out
      have z3 := cell_of_row w9 w.heap.size 3 _ _ _ Z9.out
      have z4 := cell_of_row w9 w.heap.size 4 _ _ _ Z9.out
      have z5 := cell_of_row w9 w.heap.size 5 _ _ _ Z9.out
      have z6 := cell_of_row w9 w.heap.size 6 _ _ _ Z9.out
      have z7 := cell_of_row w9 w.heap.size 7 _ _ _ Z9.out
      have y0 : w9.frozen? ⟨w.heap.size, 0, none⟩ = false := frozen_of_row w9 w.heap.size 0 _ _ Z9.out
      have y1 : w9.frozen? ⟨w.heap.size, 1, none⟩ = false := frozen_of_row w9 w.heap.size 1 _ _ Z9.out
      have y2 : w9.frozen? ⟨w.heap.size, 2, none⟩ = false := frozen_of_row w9 w.heap.size 2 _ _ Z9.out
      have y3 : w9.frozen? ⟨w.heap.size, 3, none⟩ = false := frozen_of_row w9 w.heap.size 3 _ _ Z9.out
      have y4 : w9.frozen? ⟨w.heap.size, 4, none⟩ = false := frozen_of_row w9 w.heap.size 4 _ _ Z9.out
      have y5 : w9.frozen? ⟨w.heap.size, 5, none⟩ = false := frozen_of_row w9 w.heap.size 5 _ _ Z9.out
      have y6 : w9.frozen? ⟨w.heap.size, 6, none⟩ = false := frozen_of_row w9 w.heap.size 6 _ _ Z9.out
      have y7 : w9.frozen? ⟨w.heap.size, 7, none⟩ = false := frozen_of_row w9 w.heap.size 7 _ _ Z9.out
      simp only [List.getElem?_toArray, List.getElem?_cons_zero, List.getElem?_cons_succ] at z0 z1 z2 z3 z4 z5 z6 z7
      unfold badV stV
      go_wp2
      refine bodyPost_ret (v := badV (i : Int) 34) (by simp [results, Tryz.results28, go_sem, badV, stV, z0, z1, z2, z3, z4, z5, z6, z7]) rfl ⟨(told8 HB9.out _ _ _ _ _ _ _ _), Or.inl ⟨_, _, HR.out, by decide, rfl⟩⟩
    · have HR : Hid (L.textP s i = .ok (⟨4, i, ⟨#[]⟩, u, []⟩, j)) := by show _ = _; unfold L.textP; simp only; rw [HJ.out, HU.out]; simp [hl]; rfl
      have z0 := cell_of_row w2 w.heap.size 0 _ _ _ Z.out
      have z1 := cell_of_row w2 w.heap.size 1 _ _ _ Z.out
      have z2 := cell_of_row w2 w.heap.size 2 _ _ _ Z.out
      have z3 := cell_of_row w2 w.heap.size 3 _ _ _ Z.out
      have z4 := cell_of_row w2 w.heap.size 4 _ _ _ Z.out
      have z5 := cell_of_row w2 w.heap.size 5 _ _ _ Z.out
      have z6 := cell_of_row w2 w.heap.size 6 _ _ _ Z.out
      have z7 := cell_of_row w2 w.heap.size 7 _ _ _ Z.out
      have y0 : w2.frozen? ⟨w.heap.size, 0, none⟩ = false := frozen_of_row w2 w.heap.size 0 _ _ Z.out
      have y1 : w2.frozen? ⟨w.heap.size, 1, none⟩ = false := frozen_of_row w2 w.heap.size 1 _ _ Z.out
      have y2 : w2.frozen? ⟨w.heap.size, 2, none⟩ = false := frozen_of_row w2 w.heap.size 2 _ _ Z.out
      have y3 : w2.frozen? ⟨w.heap.size, 3, none⟩ = false := frozen_of_row w2 w.heap.size 3 _ _ Z.out
      have y4 : w2.frozen? ⟨w.heap.size, 4, none⟩ = false := frozen_of_row w2 w.heap.size 4 _ _ Z.out
      have y5 : w2.frozen? ⟨w.heap.size, 5, none⟩ = false := frozen_of_row w2 w.heap.size 5 _ _ Z.out
      have y6 : w2.frozen? ⟨w.heap.size, 6, none⟩ = false := frozen_of_row w2 w.heap.size 6 _ _ Z.out
      have y7 : w2.frozen? ⟨w.heap.size, 7, none⟩ = false := frozen_of_row w2 w.heap.size 7 _ _ Z.out
      simp only [List.getElem?_toArray, List.getElem?_cons_zero, List.getElem?_cons_succ] at z0 z1 z2 z3 z4 z5 z6 z7
      go_wp2
      refine bodyPost_ret (v := stV j 4 i ⟨#[]⟩ u (.slice none 0 0) 0 0) (by simp [results, Tryz.results28, go_sem, stV, z0, z1, z2, z3, z4, z5, z6, z7]) rfl ⟨told8 HB.out _ _ _ _ _ _ _ _, Or.inr ⟨_, _, .slice none 0 0, HR.out, rfl, World.ownsRow_nil _ _ _ _⟩⟩
  · have b1 : (e0 != 0) = true := bne_iff_ne.2 he
    have HE := hid he
    have HR : Hid (L.textP s i = .error (((i + n : Nat) : Int), e0)) := by show _ = _; unfold L.textP; simp only; rw [HJ.out, HU.out]; simp [he]
    clear he
    go_wp2_with fail
    rw [show ((i : Int) + (n : Int)) = ((i + n : Nat) : Int) by omega]
    refine (rfails_any _ _ _).mono ?_
    rintro e w9 ⟨rfl, hb9⟩
    have Z9 := hid ((hb9.block _ (lt_of_block Z.out)).trans Z.out)
    have HB9 := hid (HB.out.trans (hb9.mono HB.out.size))
    clear hb9
    have z0 := cell_of_row w9 w.heap.size 0 _ _ _ Z9.out
    have z1 := cell_of_row w9 w.heap.size 1 _ _ _ Z9.out
    have z2 := cell_of_row w9 w.heap.size 2 _ _ _ Z9.out
    have z3 := cell_of_row w9 w.heap.size 3 _ _ _ Z9.out
    have z4 := cell_of_row w9 w.heap.size 4 _ _ _ Z9.out
    have z5 := cell_of_row w9 w.heap.size 5 _ _ _ Z9.out
    have z6 := cell_of_row w9 w.heap.size 6 _ _ _ Z9.out
    have z7 := cell_of_row w9 w.heap.size 7 _ _ _ Z9.out
    have y0 : w9.frozen? ⟨w.heap.size, 0, none⟩ = false := frozen_of_row w9 w.heap.size 0 _ _ Z9.out
    have y1 : w9.frozen? ⟨w.heap.size, 1, none⟩ = false := frozen_of_row w9 w.heap.size 1 _ _ Z9.out
    have y2 : w9.frozen? ⟨w.heap.size, 2, none⟩ = false := frozen_of_row w9 w.heap.size 2 _ _ Z9.out
    have y3 : w9.frozen? ⟨w.heap.size, 3, none⟩ = false := frozen_of_row w9 w.heap.size 3 _ _ Z9.out
    have y4 : w9.frozen? ⟨w.heap.size, 4, none⟩ = false := frozen_of_row w9 w.heap.size 4 _ _ Z9.out
    have y5 : w9.frozen? ⟨w.heap.size, 5, none⟩ = false := frozen_of_row w9 w.heap.size 5 _ _ Z9.out
    have y6 : w9.frozen? ⟨w.heap.size, 6, none⟩ = false := frozen_of_row w9 w.heap.size 6 _ _ Z9.out
    have y7 : w9.frozen? ⟨w.heap.size, 7, none⟩ = false := frozen_of_row w9 w.heap.size 7 _ _ Z9.out
    simp only [List.getElem?_toArray, List.getElem?_cons_zero, List.getElem?_cons_succ] at z0 z1 z2 z3 z4 z5 z6 z7
    unfold badV stV
    go_wp2
    refine bodyPost_ret (v := badV ((i + n : Nat) : Int) e0) (by simp [results, Tryz.results28, go_sem, badV, stV, z0, z1, z2, z3, z4, z5, z6, z7]) rfl ⟨(told8 HB9.out _ _ _ _ _ _ _ _), Or.inl ⟨_, _, HR.out, HE.out, rfl⟩⟩
set_option maxRecDepth 100000 in
set_option maxHeartbeats 4000000 in
theorem rend_st (s : ByteArray) (i : Nat) (w : World) (hi : i + 2 ≤ s.size) (hz : s.size ≤ 20000) :
    Calls Tryz.prog 26 #[.string s, .int .i64 (i : Int)] w (StPost w (L.endP s i)) := by
  obtain ⟨j, HJ⟩ : ∃ j, Hid (L.runP L.wordB s (i + 2) = j) := ⟨_, hid rfl⟩
  have j1 : i + 2 ≤ j := by rw [← HJ.out]; exact L.run_ge _ _ _
  have j2 : j ≤ s.size := by rw [← HJ.out]; exact L.run_le hi
  obtain ⟨m, HM⟩ : ∃ m, Hid (L.runP L.blankB s j = m) := ⟨_, hid rfl⟩
  have m2 : m ≤ s.size := by rw [← HM.out]; exact L.run_le j2
  have HS : Hid ((s.extract (i + 2) j).size ≤ 1048576) := by show _ ≤ _; simp; omega
  go_enter Tryz.func26, Tryz.ntmps26
  go_wp2_with fail
  refine (rword_any s (i + 2) j _ hi (by omega) HJ).mono ?_
  rintro e w1 ⟨rfl, rfl⟩
  cases hn : L.nameP (s.extract (i + 2) j) with
  | false =>
    have HR : Hid (L.endP s i = .error (((i + 2 : Nat) : Int), 31)) := by show _ = _; unfold L.endP; simp only; rw [HJ.out, HM.out, if_pos hn]
    have HN := hid hn
    clear hn
    go_wp2_with fail
    refine (rname_any _ false _ HS.out HN).mono ?_
    rintro e w2 ⟨rfl, hb2⟩
    have Z := hid (zero_kept w hb2)
    have HB := hid (below_new w zeroS hb2)
    clear hb2
    go_wp2_with fail
    refine (rfails_any _ _ _).mono ?_
    rintro e w9 ⟨rfl, hb9⟩
    have Z9 := hid ((hb9.block _ (lt_of_block Z.out)).trans Z.out)
    have HB9 := hid (HB.out.trans (hb9.mono HB.out.size))
    clear hb9
    have z0 := cell_of_row w9 w.heap.size 0 _ _ _ Z9.out
    have z1 := cell_of_row w9 w.heap.size 1 _ _ _ Z9.out
    have z2 := cell_of_row w9 w.heap.size 2 _ _ _ Z9.out
    have z3 := cell_of_row w9 w.heap.size 3 _ _ _ Z9.out
    have z4 := cell_of_row w9 w.heap.size 4 _ _ _ Z9.out
    have z5 := cell_of_row w9 w.heap.size 5 _ _ _ Z9.out
    have z6 := cell_of_row w9 w.heap.size 6 _ _ _ Z9.out
    have z7 := cell_of_row w9 w.heap.size 7 _ _ _ Z9.out
    have y0 : w9.frozen? ⟨w.heap.size, 0, none⟩ = false := frozen_of_row w9 w.heap.size 0 _ _ Z9.out
    have y1 : w9.frozen? ⟨w.heap.size, 1, none⟩ = false := frozen_of_row w9 w.heap.size 1 _ _ Z9.out
    have y2 : w9.frozen? ⟨w.heap.size, 2, none⟩ = false := frozen_of_row w9 w.heap.size 2 _ _ Z9.out
    have y3 : w9.frozen? ⟨w.heap.size, 3, none⟩ = false := frozen_of_row w9 w.heap.size 3 _ _ Z9.out
    have y4 : w9.frozen? ⟨w.heap.size, 4, none⟩ = false := frozen_of_row w9 w.heap.size 4 _ _ Z9.out
    have y5 : w9.frozen? ⟨w.heap.size, 5, none⟩ = false := frozen_of_row w9 w.heap.size 5 _ _ Z9.out
    have y6 : w9.frozen? ⟨w.heap.size, 6, none⟩ = false := frozen_of_row w9 w.heap.size 6 _ _ Z9.out
    have y7 : w9.frozen? ⟨w.heap.size, 7, none⟩ = false := frozen_of_row w9 w.heap.size 7 _ _ Z9.out
    simp only [List.getElem?_toArray, List.getElem?_cons_zero, List.getElem?_cons_succ] at z0 z1 z2 z3 z4 z5 z6 z7
    unfold badV stV
    go_wp2
    refine bodyPost_ret (v := badV ((i + 2 : Nat) : Int) 31) (by simp [results, Tryz.results26, go_sem, badV, stV, z0, z1, z2, z3, z4, z5, z6, z7]) rfl ⟨(told8 HB9.out _ _ _ _ _ _ _ _), Or.inl ⟨_, _, HR.out, by decide, rfl⟩⟩
  | true =>
    have HN := hid hn
    have HN2 := hid hn
    clear hn
    go_wp2_with fail
    refine (rname_any _ true _ HS.out HN).mono ?_
    rintro e w2 ⟨rfl, hb2⟩
    have Z := hid (zero_kept w hb2)
    have HB := hid (below_new w zeroS hb2)
    clear hb2
    go_wp2_with fail
    refine (rskip_any s j m _ j2 (by omega) HM).mono ?_
    rintro e w3 ⟨rfl, rfl⟩
    cases hc : L.thereB s m [62] with
    | false =>
      have HR : Hid (L.endP s i = .error ((m : Int), 30)) := by show _ = _; unfold L.endP; simp only; rw [HJ.out, HM.out, if_neg (by rw [HN2.out]; simp), if_neg (by rw [hc]; simp)]
      have HC : Hid (L.thereB s m (ByteArray.mk #[62]).data.toList = false) := hid hc
      clear hc
      go_wp2_with fail
      refine (rthere_any s m ⟨#[62]⟩ false _ (by omega) (by omega) (by decide) HC).mono ?_
      rintro e w4 ⟨rfl, rfl⟩
      go_wp2_with fail
      refine (rfails_any _ _ _).mono ?_
      rintro e w9 ⟨rfl, hb9⟩
      have Z9 := hid ((hb9.block _ (lt_of_block Z.out)).trans Z.out)
      have HB9 := hid (HB.out.trans (hb9.mono HB.out.size))
      clear hb9
      have z0 := cell_of_row w9 w.heap.size 0 _ _ _ Z9.out
      have z1 := cell_of_row w9 w.heap.size 1 _ _ _ Z9.out
      have z2 := cell_of_row w9 w.heap.size 2 _ _ _ Z9.out
      have z3 := cell_of_row w9 w.heap.size 3 _ _ _ Z9.out
      have z4 := cell_of_row w9 w.heap.size 4 _ _ _ Z9.out
      have z5 := cell_of_row w9 w.heap.size 5 _ _ _ Z9.out
      have z6 := cell_of_row w9 w.heap.size 6 _ _ _ Z9.out
      have z7 := cell_of_row w9 w.heap.size 7 _ _ _ Z9.out
      have y0 : w9.frozen? ⟨w.heap.size, 0, none⟩ = false := frozen_of_row w9 w.heap.size 0 _ _ Z9.out
      have y1 : w9.frozen? ⟨w.heap.size, 1, none⟩ = false := frozen_of_row w9 w.heap.size 1 _ _ Z9.out
      have y2 : w9.frozen? ⟨w.heap.size, 2, none⟩ = false := frozen_of_row w9 w.heap.size 2 _ _ Z9.out
      have y3 : w9.frozen? ⟨w.heap.size, 3, none⟩ = false := frozen_of_row w9 w.heap.size 3 _ _ Z9.out
      have y4 : w9.frozen? ⟨w.heap.size, 4, none⟩ = false := frozen_of_row w9 w.heap.size 4 _ _ Z9.out
      have y5 : w9.frozen? ⟨w.heap.size, 5, none⟩ = false := frozen_of_row w9 w.heap.size 5 _ _ Z9.out
      have y6 : w9.frozen? ⟨w.heap.size, 6, none⟩ = false := frozen_of_row w9 w.heap.size 6 _ _ Z9.out
      have y7 : w9.frozen? ⟨w.heap.size, 7, none⟩ = false := frozen_of_row w9 w.heap.size 7 _ _ Z9.out
      simp only [List.getElem?_toArray, List.getElem?_cons_zero, List.getElem?_cons_succ] at z0 z1 z2 z3 z4 z5 z6 z7
      unfold badV stV
      go_wp2
      refine bodyPost_ret (v := badV (m : Int) 30) (by simp [results, Tryz.results26, go_sem, badV, stV, z0, z1, z2, z3, z4, z5, z6, z7]) rfl ⟨(told8 HB9.out _ _ _ _ _ _ _ _), Or.inl ⟨_, _, HR.out, by decide, rfl⟩⟩
    | true =>
      have HR : Hid (L.endP s i = .ok (⟨2, i, s.extract (i + 2) j, ⟨#[]⟩, []⟩, m + 1)) := by show _ = _; unfold L.endP; simp only; rw [HJ.out, HM.out, if_neg (by rw [HN2.out]; simp), if_pos hc]; rfl
      have HC : Hid (L.thereB s m (ByteArray.mk #[62]).data.toList = true) := hid hc
      have m3 := L.there_lt hc
      clear hc
      go_wp2_with fail
      refine (rthere_any s m ⟨#[62]⟩ true _ (by omega) (by omega) (by decide) HC).mono ?_
      rintro e w4 ⟨rfl, rfl⟩
      have z0 := cell_of_row w4 w.heap.size 0 _ _ _ Z.out
      have z1 := cell_of_row w4 w.heap.size 1 _ _ _ Z.out
      have z2 := cell_of_row w4 w.heap.size 2 _ _ _ Z.out
      have z3 := cell_of_row w4 w.heap.size 3 _ _ _ Z.out
      have z4 := cell_of_row w4 w.heap.size 4 _ _ _ Z.out
      have z5 := cell_of_row w4 w.heap.size 5 _ _ _ Z.out
      have z6 := cell_of_row w4 w.heap.size 6 _ _ _ Z.out
      have z7 := cell_of_row w4 w.heap.size 7 _ _ _ Z.out
      have y0 : w4.frozen? ⟨w.heap.size, 0, none⟩ = false := frozen_of_row w4 w.heap.size 0 _ _ Z.out
      have y1 : w4.frozen? ⟨w.heap.size, 1, none⟩ = false := frozen_of_row w4 w.heap.size 1 _ _ Z.out
      have y2 : w4.frozen? ⟨w.heap.size, 2, none⟩ = false := frozen_of_row w4 w.heap.size 2 _ _ Z.out
      have y3 : w4.frozen? ⟨w.heap.size, 3, none⟩ = false := frozen_of_row w4 w.heap.size 3 _ _ Z.out
      have y4 : w4.frozen? ⟨w.heap.size, 4, none⟩ = false := frozen_of_row w4 w.heap.size 4 _ _ Z.out
      have y5 : w4.frozen? ⟨w.heap.size, 5, none⟩ = false := frozen_of_row w4 w.heap.size 5 _ _ Z.out
      have y6 : w4.frozen? ⟨w.heap.size, 6, none⟩ = false := frozen_of_row w4 w.heap.size 6 _ _ Z.out
      have y7 : w4.frozen? ⟨w.heap.size, 7, none⟩ = false := frozen_of_row w4 w.heap.size 7 _ _ Z.out
      simp only [List.getElem?_toArray, List.getElem?_cons_zero, List.getElem?_cons_succ] at z0 z1 z2 z3 z4 z5 z6 z7
      go_wp2
      refine bodyPost_ret (v := stV ((m + 1 : Nat) : Int) 2 i (s.extract (i + 2) j) ⟨#[]⟩ (.slice none 0 0) 0 0) (by simp [results, Tryz.results26, go_sem, stV, z0, z1, z2, z3, z4, z5, z6, z7]) rfl ⟨told8 HB.out _ _ _ _ _ _ _ _, Or.inr ⟨_, _, .slice none 0 0, HR.out, rfl, World.ownsRow_nil _ _ _ _⟩⟩
end Go.Proofs.YtafjffnijonglaaGreatDoor
namespace Go.Proofs.YtafjffnijonglaaGreatDoor
open Go.RowKit Go.Shelf
theorem gtr_eq (x a : ByteArray) : (!(Op.bytesLess x.toList a.toList || x.toList == a.toList)) = L.ltB a x := by
  rw [str_eq, ByteArray.toList_eq, ByteArray.toList_eq, L.less_lt]
  have e : decide (x.data.toList < a.data.toList) = L.ltB x a := rfl
  rw [e]
  cases h1 : L.ltB x a
  · cases h2 : L.ltB a x
    · have := L.lt_tri x a h1 h2
      simp [this]
    · have : x ≠ a := by intro q; subst q; rw [L.lt_irr] at h2; cases h2
      simp [this]
  · cases h2 : L.ltB a x
    · rfl
    · have := L.lt_tr h1 h2
      rw [L.lt_irr] at this
      cases this
theorem L.ins_stop {a : L.Attr} {l : List L.Attr} {k : Nat} (hk : k < l.length) (h : L.ltB a.1 l[k].1 = true) : L.insA a (l.drop k) = a :: l.drop k := by
  rw [List.drop_eq_getElem_cons hk, L.insA, if_pos h]
theorem L.ins_go {a : L.Attr} {l : List L.Attr} {k : Nat} (hk : k < l.length) (h : L.ltB a.1 l[k].1 = false) : L.insA a (l.drop k) = l[k] :: L.insA a (l.drop (k + 1)) := by
  rw [List.drop_eq_getElem_cons hk, L.insA, if_neg (by rw [h]; simp)]
theorem L.ins_len (a : L.Attr) (l : List L.Attr) : (L.insA a l).length = l.length + 1 := (L.perm_ins a l).length_eq
/-- Where with's loop is. -/
structure WithAt (w : World) (a : L.Attr) (l : List L.Attr) (v : Value) (k : Nat) (d : Bool) (V : Value) (out : List L.Attr) (W : World) : Prop where
  le : k ≤ l.length
  len : out.length ≤ l.length + 1
  eq : L.insA a l = out ++ (if d = true then l.drop k else L.insA a (l.drop k))
  row : W.ownsRow (w.heap.size + 1) 67 2 V out.length (encL out)
  bel : Below w.heap.size w W
  box : W.heap[w.heap.size]? = some (.cells #[.string a.1, .string a.2] 67 (0, 0))
theorem WithAt.drewN {w : World} {a : L.Attr} {l : List L.Attr} {v V : Value} {k : Nat} {d : Bool} {out : List L.Attr} {W : World} (h : WithAt w a l v k d V out W) (m : Nat) : WithAt w a l v k d V out (W.drewN m) :=
  ⟨h.le, h.len, h.eq, h.row, ⟨h.bel.os, h.bel.tape, h.bel.output, h.bel.size, h.bel.block⟩, h.box⟩
/-- One more is laid behind. -/
theorem WithAt.grown {w : World} {a x : L.Attr} {l : List L.Attr} {v V V' : Value} {k k' : Nat} {d d' : Bool} {out : List L.Attr} {W W' : World} {o : Obj} {n : Nat} (h : WithAt w a l v k d V out W) (hg : ((W.alloc o)).grownBy W' V.ownBlock) (hV : W'.ownsRow (w.heap.size + 1) 67 2 V' n (encL out ++ encA x)) (hn : n = out.length + 1)
    (hk : k' ≤ l.length) (hl : out.length ≤ l.length) (he : L.insA a l = (out ++ [x]) ++ (if d' = true then l.drop k' else L.insA a (l.drop k'))) : WithAt w a l v k' d' V' (out ++ [x]) W' := by
  have hs := h.bel.size
  have hb := lt_of_block h.box
  refine ⟨hk, by simp; omega, he, by rw [encL_snoc, List.length_append]; subst hn; exact hV, ?_, ?_⟩
  · exact (h.bel.alloc hs o).grown hg (by simp; omega) (fun q hq => by have := (World.ownsRow.lt h.row q hq).1; omega)
  · rw [hg.block w.heap.size (by simp; omega) (fun q => by have := (World.ownsRow.lt h.row _ q.symm).1; omega), Below.heap_alloc _ _ _ hb]
    exact h.box
set_option maxRecDepth 100000 in
set_option maxHeartbeats 4000000 in
theorem rwith_any (a : L.Attr) (l : List L.Attr) (v : Value) (w : World) (b1 : Nat) (h1 : w.ownsRow b1 67 2 v l.length (encL l)) (hl : l.length ≤ 20) :
    Calls Tryz.prog 68 #[v, .agg #[.string a.1, .string a.2]] w fun e w' => Below w.heap.size w w' ∧ ∃ v', e = .returned v' ∧ w'.ownsRow w.heap.size 67 2 v' (L.insA a l).length (encL (L.insA a l)) := by
  obtain ⟨i0, hi0, hz0, hz1, hz2⟩ := info_parts infoA
  have I0 := hid hi0
  have I1 := hid hz0
  have I2 := hid hz1
  have I3 := hid hz2
  clear hi0 hz0 hz1 hz2
  obtain ⟨ao, cp, rfl⟩ := att_len h1
  have H1 := hid h1
  clear h1
  go_enter Tryz.func68, Tryz.ntmps68
  go_wp2
  have A0 : Hid (WithAt w a l (.slice ao l.length cp) 0 false (.slice none 0 0) [] (w.alloc (.cells #[.string a.1, .string a.2] 67))) := hid ⟨by omega, by simp, by simp, World.ownsRow_nil _ _ _ _, (Below.refl _ _).alloc (Nat.le_refl _) _, heap_alloc_new w _⟩
  go_loopw [5, 6, 7] (fun v5 v6 v7 W => ∃ (k : Nat) (d : Bool) (out : List L.Attr), v6 = .bool d ∧ v7 = .int .i64 (k : Int) ∧ Hid (WithAt w a l (.slice ao l.length cp) k d v5 out W)) (fun _ _ v7 _ => l.length - (intOf v7).toNat)
  case atStart => exact ⟨0, false, [], rfl, rfl, A0⟩
  case round =>
    clear A0
    obtain ⟨k, d, out, rfl, rfl, HA⟩ := hrel
    by_cases hk : k < l.length
    · obtain ⟨g, cap, e1, hg⟩ := att_form H1.out (by intro q; rw [q] at hk; simp at hk)
      simp only [Value.slice.injEq, true_and] at e1
      obtain ⟨rfl, rfl⟩ := e1
      obtain ⟨c0', c1'⟩ := att_cells H1.out k hk
      have c0 : wr.cell? ⟨g, k * 2, none⟩ = some (.string l[k].1) := by rw [HA.out.bel.cell (p := ⟨g, k * 2, none⟩) hg]; exact c0'
      have c1 : wr.cell? ⟨g, k * 2 + 1, none⟩ = some (.string l[k].2) := by rw [HA.out.bel.cell (p := ⟨g, k * 2 + 1, none⟩) hg]; exact c1'
      have d0 : wr.cell? ⟨w.heap.size, 0, none⟩ = some (.string a.1) := cell_of_row _ _ 0 _ _ _ HA.out.box
      have d1 : wr.cell? ⟨w.heap.size, 1, none⟩ = some (.string a.2) := cell_of_row _ _ 1 _ _ _ HA.out.box
      have hk' : (k : Int) < (l.length : Int) := by omega
      clear c0' c1'
      have ok : out.length ≤ l.length := by
        have e := congrArg List.length HA.out.eq
        rw [L.ins_len, List.length_append] at e
        split at e
        · simp at e; omega
        · rw [L.ins_len] at e; simp at e; omega
      have gne : g < w.heap.size := hg
      cases d with
      | true =>
        go_wp2_with fail
        go_quiet (fail)
        have HA1 := hid (HA.out.drewN nq)
        have c2 : (wr.drewN nq).cell? ⟨g, k * 2, none⟩ = some (.string l[k].1) := c0
        have c3 : (wr.drewN nq).cell? ⟨g, k * 2 + 1, none⟩ = some (.string l[k].2) := c1
        clear c0 c1 d0 d1 HA
        generalize wr.drewN nq = W1 at *
        have HO := hid (World.ownsRow.alloc HA1.out.row (.cells #[.string l[k].1, .string l[k].2] 67))
        have HN := hid (World.news_of_block (cs := #[.string l[k].1, .string l[k].2]) (heap_alloc_new W1 (.cells #[.string l[k].1, .string l[k].2] 67)))
        have hm : Hid (out.length + 1 ≤ maxLen ∧ (out.length + 1) * 32 ≤ 140737488355328 ∧ w.heap.size + 1 ≤ (W1.alloc (.cells #[.string l[k].1, .string l[k].2] 67)).heap.size) := hid ⟨by have := HA1.out.len; unfold maxLen; omega, by have := HA1.out.len; omega, by have := lt_of_block HA1.out.box; simp; omega⟩
        go_wp2_with (at_builtin; refine wpList_append_lies _ rfl (.tmp 30) (.tmp 35) 32 rfl (w.heap.size + 1) 67 i0 (.agg #[.string ⟨#[]⟩, .string ⟨#[]⟩]) 2 32 Tryz.underlying32 I0.out I1.out I2.out I3.out rfl (by decide) _ out.length (encL out) rfl HO.out ⟨W1.heap.size, 0, none⟩ 1 1 (encA l[k]) rfl rfl HN.out (one_two _ _) (by decide) hm.out.1 hm.out.2.1 hm.out.2.2 (W1.heap.size + 1) (by simp) ?_; intro g' cap' w4 hown hgrow _ _)
        have HA2 : Hid (WithAt w a l (.slice (some ⟨g, 0, none⟩) l.length cp) (k + 1) true (.slice (some ⟨g', 0, none⟩) (out.length + 1) cap') (out ++ [l[k]]) w4) := hid (HA1.out.grown hgrow hown rfl (by omega) ok (by
          have e := HA1.out.eq
          simp only [if_true] at e ⊢
          rw [e, List.drop_eq_getElem_cons hk]
          simp))
        clear hown hgrow HO HN hm HA1
        go_wp2
        go_roundw
        case rel => exact ⟨k + 1, true, out ++ [l[k]], rfl, by go_num, HA2⟩
        case measure => simp [intOf]; omega
      | false =>
        have ge := gtr_eq l[k].1 a.1
        cases hb : L.ltB a.1 l[k].1 with
        | true =>
          rw [hb] at ge
          go_wp2_with fail
          go_quiet (fail)
          have HA1 := hid (HA.out.drewN nq)
          have c2 : (wr.drewN nq).cell? ⟨g, k * 2, none⟩ = some (.string l[k].1) := c0
          have c3 : (wr.drewN nq).cell? ⟨g, k * 2 + 1, none⟩ = some (.string l[k].2) := c1
          have d2 : (wr.drewN nq).cell? ⟨w.heap.size, 0, none⟩ = some (.string a.1) := d0
          have d3 : (wr.drewN nq).cell? ⟨w.heap.size, 1, none⟩ = some (.string a.2) := d1
          clear c0 c1 d0 d1 HA ge
          generalize wr.drewN nq = W1 at *
          have HO := hid (World.ownsRow.alloc HA1.out.row (.cells #[.string a.1, .string a.2] 67))
          have HN := hid (World.news_of_block (cs := #[.string a.1, .string a.2]) (heap_alloc_new W1 (.cells #[.string a.1, .string a.2] 67)))
          have hm : Hid (out.length + 1 ≤ maxLen ∧ (out.length + 1) * 32 ≤ 140737488355328 ∧ w.heap.size + 1 ≤ (W1.alloc (.cells #[.string a.1, .string a.2] 67)).heap.size) := hid ⟨by have := HA1.out.len; unfold maxLen; omega, by have := HA1.out.len; omega, by have := lt_of_block HA1.out.box; simp; omega⟩
          go_wp2_with (first
            | (
                at_builtin
                refine wpList_append_lies _ rfl (.tmp 26) (.tmp 28) 32 rfl (w.heap.size + 1) 67 i0 (.agg #[.string ⟨#[]⟩, .string ⟨#[]⟩]) 2 32 Tryz.underlying32 I0.out I1.out I2.out I3.out rfl (by decide) _ out.length (encL out) rfl HO.out ⟨W1.heap.size, 0, none⟩ 1 1 (encA a) rfl rfl HN.out (one_two _ _) (by decide) hm.out.1 hm.out.2.1 hm.out.2.2 (W1.heap.size + 1) (by simp) ?_
                intro g' cap' w4 hown hgrow _ _
                have HA2 : Hid (WithAt w a l (.slice (some ⟨g, 0, none⟩) l.length cp) k true (.slice (some ⟨g', 0, none⟩) (out.length + 1) cap') (out ++ [a]) w4) := hid (HA1.out.grown hgrow hown rfl (by omega) ok (by
                  have e := HA1.out.eq
                  simp only [if_true, Bool.false_eq_true, if_false] at e ⊢
                  rw [e, L.ins_stop hk hb]
                  simp))
                have c4 : w4.cell? ⟨g, k * 2, none⟩ = some (.string l[k].1) := by rw [HA2.out.bel.cell (p := ⟨g, k * 2, none⟩) gne, ← HA1.out.bel.cell (p := ⟨g, k * 2, none⟩) gne]; exact c2
                have c5 : w4.cell? ⟨g, k * 2 + 1, none⟩ = some (.string l[k].2) := by rw [HA2.out.bel.cell (p := ⟨g, k * 2 + 1, none⟩) gne, ← HA1.out.bel.cell (p := ⟨g, k * 2 + 1, none⟩) gne]; exact c3
                have ok2 : (out ++ [a]).length ≤ l.length := by
                  have e := congrArg List.length HA2.out.eq
                  rw [L.ins_len] at e
                  simp at e ⊢
                  omega
                clear hown hgrow HO HN hm HA1 c2 c3 d2 d3
                have HO := hid (World.ownsRow.alloc HA2.out.row (.cells #[.string l[k].1, .string l[k].2] 67))
                have HN := hid (World.news_of_block (cs := #[.string l[k].1, .string l[k].2]) (heap_alloc_new w4 (.cells #[.string l[k].1, .string l[k].2] 67)))
                have hm : Hid ((out ++ [a]).length + 1 ≤ maxLen ∧ ((out ++ [a]).length + 1) * 32 ≤ 140737488355328 ∧ w.heap.size + 1 ≤ (w4.alloc (.cells #[.string l[k].1, .string l[k].2] 67)).heap.size) := hid ⟨by have := HA2.out.len; unfold maxLen; omega, by have := HA2.out.len; omega, by have := lt_of_block HA2.out.box; simp; omega⟩)
            | (at_builtin; refine wpList_append_lies _ rfl (.tmp 30) (.tmp 35) 32 rfl (w.heap.size + 1) 67 i0 (.agg #[.string ⟨#[]⟩, .string ⟨#[]⟩]) 2 32 Tryz.underlying32 I0.out I1.out I2.out I3.out rfl (by decide) (.slice (some ⟨g', 0, none⟩) (out.length + 1) cap') (out ++ [a]).length (encL (out ++ [a])) rfl HO.out ⟨w4.heap.size, 0, none⟩ 1 1 (encA l[k]) rfl rfl HN.out (one_two _ _) (by decide) hm.out.1 hm.out.2.1 hm.out.2.2 (w4.heap.size + 1) (by simp) ?_; intro g2 cap2 w5 hown hgrow _ _))
          have HA3 : Hid (WithAt w a l (.slice (some ⟨g, 0, none⟩) l.length cp) (k + 1) true (.slice (some ⟨g2, 0, none⟩) ((out ++ [a]).length + 1) cap2) (out ++ [a] ++ [l[k]]) w5) := hid (HA2.out.grown hgrow hown rfl (by omega) ok2 (by
            have e := HA2.out.eq
            simp only [if_true] at e ⊢
            rw [e, List.drop_eq_getElem_cons hk]
            simp))
          clear hown hgrow HO HN hm HA2
          go_wp2
          go_roundw
          case rel =>
            rw [show (out ++ [a]).length = out.length + 1 by simp] at HA3
            exact ⟨k + 1, true, out ++ [a] ++ [l[k]], rfl, by go_num, HA3⟩
          case measure => simp [intOf]; omega
        | false =>
          rw [hb] at ge
          go_wp2_with fail
          go_quiet (fail)
          have HA1 := hid (HA.out.drewN nq)
          have c2 : (wr.drewN nq).cell? ⟨g, k * 2, none⟩ = some (.string l[k].1) := c0
          have c3 : (wr.drewN nq).cell? ⟨g, k * 2 + 1, none⟩ = some (.string l[k].2) := c1
          clear c0 c1 d0 d1 HA ge
          generalize wr.drewN nq = W1 at *
          have HO := hid (World.ownsRow.alloc HA1.out.row (.cells #[.string l[k].1, .string l[k].2] 67))
          have HN := hid (World.news_of_block (cs := #[.string l[k].1, .string l[k].2]) (heap_alloc_new W1 (.cells #[.string l[k].1, .string l[k].2] 67)))
          have hm : Hid (out.length + 1 ≤ maxLen ∧ (out.length + 1) * 32 ≤ 140737488355328 ∧ w.heap.size + 1 ≤ (W1.alloc (.cells #[.string l[k].1, .string l[k].2] 67)).heap.size) := hid ⟨by have := HA1.out.len; unfold maxLen; omega, by have := HA1.out.len; omega, by have := lt_of_block HA1.out.box; simp; omega⟩
          go_wp2_with (at_builtin; refine wpList_append_lies _ rfl (.tmp 30) (.tmp 35) 32 rfl (w.heap.size + 1) 67 i0 (.agg #[.string ⟨#[]⟩, .string ⟨#[]⟩]) 2 32 Tryz.underlying32 I0.out I1.out I2.out I3.out rfl (by decide) _ out.length (encL out) rfl HO.out ⟨W1.heap.size, 0, none⟩ 1 1 (encA l[k]) rfl rfl HN.out (one_two _ _) (by decide) hm.out.1 hm.out.2.1 hm.out.2.2 (W1.heap.size + 1) (by simp) ?_; intro g' cap' w4 hown hgrow _ _)
          have HA2 : Hid (WithAt w a l (.slice (some ⟨g, 0, none⟩) l.length cp) (k + 1) false (.slice (some ⟨g', 0, none⟩) (out.length + 1) cap') (out ++ [l[k]]) w4) := hid (HA1.out.grown hgrow hown rfl (by omega) ok (by
            have e := HA1.out.eq
            simp only [Bool.false_eq_true, if_false] at e ⊢
            rw [e, L.ins_go hk hb]
            simp))
          clear hown hgrow HO HN hm HA1
          go_wp2
          go_roundw
          case rel => exact ⟨k + 1, false, out ++ [l[k]], rfl, by go_num, HA2⟩
          case measure => simp [intOf]; omega
    · have hk' : ¬ (k : Int) < (l.length : Int) := by omega
      have kl : k = l.length := by have := HA.out.le; omega
      cases d with
      | true =>
        have he : L.insA a l = out := by have e := HA.out.eq; rw [if_pos rfl, kl, List.drop_length, List.append_nil] at e; exact e
        have HE := hid he
        clear he
        go_wp2
        go_ret
        exact ⟨HA.out.bel, _, rfl, by rw [HE.out]; exact row_base HA.out.row (by omega)⟩
      | false =>
        have he : L.insA a l = out ++ [a] := by have e := HA.out.eq; rw [if_neg (by simp), kl, List.drop_length] at e; exact e
        have ok : out.length ≤ l.length := by have e := congrArg List.length he; rw [L.ins_len, List.length_append] at e; simp at e; omega
        have HE := hid he
        have d0 : wr.cell? ⟨w.heap.size, 0, none⟩ = some (.string a.1) := cell_of_row _ _ 0 _ _ _ HA.out.box
        have d1 : wr.cell? ⟨w.heap.size, 1, none⟩ = some (.string a.2) := cell_of_row _ _ 1 _ _ _ HA.out.box
        clear he
        have HO := hid (World.ownsRow.alloc HA.out.row (.cells #[.string a.1, .string a.2] 67))
        have HN := hid (World.news_of_block (cs := #[.string a.1, .string a.2]) (heap_alloc_new wr (.cells #[.string a.1, .string a.2] 67)))
        have hm : Hid (out.length + 1 ≤ maxLen ∧ (out.length + 1) * 32 ≤ 140737488355328 ∧ w.heap.size + 1 ≤ (wr.alloc (.cells #[.string a.1, .string a.2] 67)).heap.size) := hid ⟨by have := HA.out.len; unfold maxLen; omega, by have := HA.out.len; omega, by have := lt_of_block HA.out.box; simp; omega⟩
        go_wp2_with (at_builtin; refine wpList_append_lies _ rfl (.tmp 39) (.tmp 41) 32 rfl (w.heap.size + 1) 67 i0 (.agg #[.string ⟨#[]⟩, .string ⟨#[]⟩]) 2 32 Tryz.underlying32 I0.out I1.out I2.out I3.out rfl (by decide) _ out.length (encL out) rfl HO.out ⟨wr.heap.size, 0, none⟩ 1 1 (encA a) rfl rfl HN.out (one_two _ _) (by decide) hm.out.1 hm.out.2.1 hm.out.2.2 (wr.heap.size + 1) (by simp) ?_; intro g' cap' w4 hown hgrow _ _)
        have HB4 : Hid (Below w.heap.size w w4 ∧ w4.ownsRow w.heap.size 67 2 (.slice (some ⟨g', 0, none⟩) (out.length + 1) cap') (L.insA a l).length (encL (L.insA a l))) := hid ⟨(HA.out.bel.alloc HA.out.bel.size _).grown hgrow (by have := HA.out.bel.size; simp; omega) (fun q hq => by have := (World.ownsRow.lt HA.out.row q hq).1; omega), by rw [HE.out, encL_snoc, List.length_append]; exact row_base hown (by omega)⟩
        clear hown hgrow HO HN hm HA
        go_wp2
        go_ret
        exact ⟨HB4.out.1, _, rfl, HB4.out.2⟩
end Go.Proofs.YtafjffnijonglaaGreatDoor
namespace Go.Proofs.YtafjffnijonglaaGreatDoor
open Go.RowKit Go.Shelf
def AttrStPost (w : World) (p : Nat) (nm : ByteArray) (l : List L.Attr) (res : Except L.Bad (L.Attr × Nat)) (e : Ending) (w' : World) : Prop :=
  Below w.heap.size w w' ∧
  ((∃ (q e0 : Int), res = .error (q, e0) ∧ e0 ≠ 0 ∧ e = .returned (badV q e0)) ∨
   (∃ (a : L.Attr) (n : Nat) (v : Value), res = .ok (a, n) ∧ e = .returned (stV n 0 p nm ⟨#[]⟩ v 0 0) ∧ w'.ownsRow w.heap.size 67 2 v (L.insA a l).length (encL (L.insA a l))))
section
variable {w w' : World}
theorem told8b (h : Below w.heap.size w w') (a0 a1 a2 a3 a4 a5 a6 a7 : Value) : Below w.heap.size w ((((((((w'.setCell ⟨w.heap.size + 1, 0, none⟩ a0).setCell ⟨w.heap.size + 1, 1, none⟩ a1).setCell ⟨w.heap.size + 1, 2, none⟩ a2).setCell ⟨w.heap.size + 1, 3, none⟩ a3).setCell ⟨w.heap.size + 1, 4, none⟩ a4).setCell ⟨w.heap.size + 1, 5, none⟩ a5).setCell ⟨w.heap.size + 1, 6, none⟩ a6).setCell ⟨w.heap.size + 1, 7, none⟩ a7) :=
  (((((((h.setCell (p := ⟨w.heap.size + 1, 0, none⟩) (Nat.le_succ _) a0).setCell (p := ⟨w.heap.size + 1, 1, none⟩) (Nat.le_succ _) a1).setCell (p := ⟨w.heap.size + 1, 2, none⟩) (Nat.le_succ _) a2).setCell (p := ⟨w.heap.size + 1, 3, none⟩) (Nat.le_succ _) a3).setCell (p := ⟨w.heap.size + 1, 4, none⟩) (Nat.le_succ _) a4).setCell (p := ⟨w.heap.size + 1, 5, none⟩) (Nat.le_succ _) a5).setCell (p := ⟨w.heap.size + 1, 6, none⟩) (Nat.le_succ _) a6).setCell (p := ⟨w.heap.size + 1, 7, none⟩) (Nat.le_succ _) a7
theorem told8s {v : Value} {n base : Nat} {xs : List Value} (h : w'.ownsRow base 67 2 v n xs) (hb : w.heap.size + 1 < base) (a0 a1 a2 a3 a4 a5 a6 a7 : Value) : World.ownsRow ((((((((w'.setCell ⟨w.heap.size + 1, 0, none⟩ a0).setCell ⟨w.heap.size + 1, 1, none⟩ a1).setCell ⟨w.heap.size + 1, 2, none⟩ a2).setCell ⟨w.heap.size + 1, 3, none⟩ a3).setCell ⟨w.heap.size + 1, 4, none⟩ a4).setCell ⟨w.heap.size + 1, 5, none⟩ a5).setCell ⟨w.heap.size + 1, 6, none⟩ a6).setCell ⟨w.heap.size + 1, 7, none⟩ a7) w.heap.size 67 2 v n xs :=
  row_base (ownsRow_setCell_below (ownsRow_setCell_below (ownsRow_setCell_below (ownsRow_setCell_below (ownsRow_setCell_below (ownsRow_setCell_below (ownsRow_setCell_below (ownsRow_setCell_below h (a := ⟨w.heap.size + 1, 0, none⟩) hb a0) (a := ⟨w.heap.size + 1, 1, none⟩) hb a1) (a := ⟨w.heap.size + 1, 2, none⟩) hb a2) (a := ⟨w.heap.size + 1, 3, none⟩) hb a3) (a := ⟨w.heap.size + 1, 4, none⟩) hb a4) (a := ⟨w.heap.size + 1, 5, none⟩) hb a5) (a := ⟨w.heap.size + 1, 6, none⟩) hb a6) (a := ⟨w.heap.size + 1, 7, none⟩) hb a7) (by omega)
end
def xObj (i : Nat) (p : Nat) (nm : ByteArray) (v : Value) : Obj := .cells #[.int .i64 (i : Int), .int .i64 0, .int .i64 (p : Int), .string nm, .string ⟨#[]⟩, v, .int .i64 0, .int .i64 0] 63 (0, 0)
/-- What stays while attr runs: the state that it was given, its result's cells, the attributes. -/
structure AttrIn (w : World) (i p : Nat) (nm : ByteArray) (v : Value) (l : List L.Attr) (b1 : Nat) (W : World) : Prop where
  x : W.heap[w.heap.size]? = some (xObj i p nm v)
  z : W.heap[w.heap.size + 1]? = some zeroS
  row : W.ownsRow b1 67 2 v l.length (encL l)
  bel : Below w.heap.size w W
theorem AttrIn.below {w : World} {i p : Nat} {nm : ByteArray} {v : Value} {l : List L.Attr} {b1 : Nat} {W W' : World} (h : AttrIn w i p nm v l b1 W) (hb : Below W.heap.size W W') : AttrIn w i p nm v l b1 W' :=
  ⟨(hb.block _ (lt_of_block h.x)).trans h.x, (hb.block _ (lt_of_block h.z)).trans h.z, row_below h.row hb, h.bel.trans (hb.mono h.bel.size)⟩
theorem attrIn_start (w : World) (i p : Nat) (nm : ByteArray) (v : Value) (l : List L.Attr) (b1 : Nat) (h : w.ownsRow b1 67 2 v l.length (encL l)) : AttrIn w i p nm v l b1 ((w.alloc (xObj i p nm v)).alloc zeroS) := by
  refine ⟨?_, ?_, World.ownsRow.alloc (World.ownsRow.alloc h _) _, ((Below.refl _ _).alloc (Nat.le_refl _) _).alloc (by simp) _⟩
  · rw [Below.heap_alloc _ _ _ (by simp)]; exact heap_alloc_new w _
  · have := heap_alloc_new (w.alloc (xObj i p nm v)) zeroS
    simpa using this
set_option maxRecDepth 100000 in
set_option maxHeartbeats 16000000 in
theorem rattr_st (s : ByteArray) (i p : Nat) (nm : ByteArray) (v : Value) (l : List L.Attr) (b1 : Nat) (w : World) (hi : i ≤ s.size) (hz : s.size ≤ 20000) (hl : l.length ≤ 20) (hrow : w.ownsRow b1 67 2 v l.length (encL l)) :
    Calls Tryz.prog 44 #[.string s, stV i 0 p nm ⟨#[]⟩ v 0 0] w (AttrStPost w p nm l (L.attrP s i l)) := by
  obtain ⟨ao, cp, rfl⟩ := att_len hrow
  have HI0 := hid (attrIn_start w i p nm _ l b1 hrow)
  clear hrow
  obtain ⟨t, HJ⟩ : ∃ t, Hid (L.runP L.wordB s i = t) := ⟨_, hid rfl⟩
  have t1 : i ≤ t := by rw [← HJ.out]; exact L.run_ge _ _ _
  have t2 : t ≤ s.size := by rw [← HJ.out]; exact L.run_le hi
  have HS : Hid ((s.extract i t).size ≤ 1048576) := by show _ ≤ _; simp; omega
  unfold stV
  go_enter Tryz.func44, Tryz.ntmps44
  go_wp2_with fail
  refine (rword_any s i t _ hi (by omega) HJ).mono ?_
  rintro e w1 ⟨rfl, rfl⟩
  cases hn : L.nameP (s.extract i t) with
  | false =>
    have HR : Hid (L.attrP s i l = .error ((i : Int), 31)) := by show _ = _; unfold L.attrP; simp only; rw [HJ.out, if_pos hn]
    have HN := hid hn
    clear hn
    go_wp2_with fail
    refine (rname_any _ false _ HS.out HN).mono ?_
    rintro e w2 ⟨rfl, hb2⟩
    have HI := hid (HI0.out.below hb2)
    have x0 := cell_of_row w2 w.heap.size 0 _ _ _ HI.out.x
    have x5 := cell_of_row w2 w.heap.size 5 _ _ _ HI.out.x
    simp only [List.getElem?_toArray, List.getElem?_cons_zero, List.getElem?_cons_succ] at x0 x5
    clear hb2 HI0
    go_wp2_with fail
    refine (rfails_any _ _ _).mono ?_
    rintro e w9 ⟨rfl, hb9⟩
    have HI9 := hid (HI.out.below hb9)
    clear hb9
    have z0 := cell_of_row w9 (w.heap.size + 1) 0 _ _ _ HI9.out.z
    have z1 := cell_of_row w9 (w.heap.size + 1) 1 _ _ _ HI9.out.z
    have z2 := cell_of_row w9 (w.heap.size + 1) 2 _ _ _ HI9.out.z
    have z3 := cell_of_row w9 (w.heap.size + 1) 3 _ _ _ HI9.out.z
    have z4 := cell_of_row w9 (w.heap.size + 1) 4 _ _ _ HI9.out.z
    have z5 := cell_of_row w9 (w.heap.size + 1) 5 _ _ _ HI9.out.z
    have z6 := cell_of_row w9 (w.heap.size + 1) 6 _ _ _ HI9.out.z
    have z7 := cell_of_row w9 (w.heap.size + 1) 7 _ _ _ HI9.out.z
    have y0 : w9.frozen? ⟨(w.heap.size + 1), 0, none⟩ = false := frozen_of_row w9 (w.heap.size + 1) 0 _ _ HI9.out.z
    have y1 : w9.frozen? ⟨(w.heap.size + 1), 1, none⟩ = false := frozen_of_row w9 (w.heap.size + 1) 1 _ _ HI9.out.z
    have y2 : w9.frozen? ⟨(w.heap.size + 1), 2, none⟩ = false := frozen_of_row w9 (w.heap.size + 1) 2 _ _ HI9.out.z
    have y3 : w9.frozen? ⟨(w.heap.size + 1), 3, none⟩ = false := frozen_of_row w9 (w.heap.size + 1) 3 _ _ HI9.out.z
    have y4 : w9.frozen? ⟨(w.heap.size + 1), 4, none⟩ = false := frozen_of_row w9 (w.heap.size + 1) 4 _ _ HI9.out.z
    have y5 : w9.frozen? ⟨(w.heap.size + 1), 5, none⟩ = false := frozen_of_row w9 (w.heap.size + 1) 5 _ _ HI9.out.z
    have y6 : w9.frozen? ⟨(w.heap.size + 1), 6, none⟩ = false := frozen_of_row w9 (w.heap.size + 1) 6 _ _ HI9.out.z
    have y7 : w9.frozen? ⟨(w.heap.size + 1), 7, none⟩ = false := frozen_of_row w9 (w.heap.size + 1) 7 _ _ HI9.out.z
    simp only [List.getElem?_toArray, List.getElem?_cons_zero, List.getElem?_cons_succ] at z0 z1 z2 z3 z4 z5 z6 z7
    unfold badV stV
    go_wp2
    refine bodyPost_ret (v := badV (i : Int) 31) (by simp [results, Tryz.results44, go_sem, badV, stV, z0, z1, z2, z3, z4, z5, z6, z7]) rfl ⟨told8b HI9.out.bel _ _ _ _ _ _ _ _, Or.inl ⟨_, _, HR.out, by decide, rfl⟩⟩
  | true =>
    have HN := hid hn
    have HN2 := hid hn
    clear hn
    go_wp2_with fail
    refine (rname_any _ true _ HS.out HN).mono ?_
    rintro e w2 ⟨rfl, hb2⟩
    have HI := hid (HI0.out.below hb2)
    have x0 := cell_of_row w2 w.heap.size 0 _ _ _ HI.out.x
    have x5 := cell_of_row w2 w.heap.size 5 _ _ _ HI.out.x
    simp only [List.getElem?_toArray, List.getElem?_cons_zero, List.getElem?_cons_succ] at x0 x5
    clear hb2 HI0
    by_cases hl20 : l.length = 20
    · have HR : Hid (L.attrP s i l = .error ((i : Int), 33)) := by show _ = _; unfold L.attrP; simp only; rw [HJ.out, if_neg (by rw [HN2.out]; simp), if_pos (by omega)]
      have hl' : (20 : Int) ≤ (l.length : Int) := by omega
      go_wp2_with fail
      refine (rfails_any _ _ _).mono ?_
      rintro e w9 ⟨rfl, hb9⟩
      have HI9 := hid (HI.out.below hb9)
      clear hb9
      have z0 := cell_of_row w9 (w.heap.size + 1) 0 _ _ _ HI9.out.z
      have z1 := cell_of_row w9 (w.heap.size + 1) 1 _ _ _ HI9.out.z
      have z2 := cell_of_row w9 (w.heap.size + 1) 2 _ _ _ HI9.out.z
      have z3 := cell_of_row w9 (w.heap.size + 1) 3 _ _ _ HI9.out.z
      have z4 := cell_of_row w9 (w.heap.size + 1) 4 _ _ _ HI9.out.z
      have z5 := cell_of_row w9 (w.heap.size + 1) 5 _ _ _ HI9.out.z
      have z6 := cell_of_row w9 (w.heap.size + 1) 6 _ _ _ HI9.out.z
      have z7 := cell_of_row w9 (w.heap.size + 1) 7 _ _ _ HI9.out.z
      have y0 : w9.frozen? ⟨(w.heap.size + 1), 0, none⟩ = false := frozen_of_row w9 (w.heap.size + 1) 0 _ _ HI9.out.z
      have y1 : w9.frozen? ⟨(w.heap.size + 1), 1, none⟩ = false := frozen_of_row w9 (w.heap.size + 1) 1 _ _ HI9.out.z
      have y2 : w9.frozen? ⟨(w.heap.size + 1), 2, none⟩ = false := frozen_of_row w9 (w.heap.size + 1) 2 _ _ HI9.out.z
      have y3 : w9.frozen? ⟨(w.heap.size + 1), 3, none⟩ = false := frozen_of_row w9 (w.heap.size + 1) 3 _ _ HI9.out.z
      have y4 : w9.frozen? ⟨(w.heap.size + 1), 4, none⟩ = false := frozen_of_row w9 (w.heap.size + 1) 4 _ _ HI9.out.z
      have y5 : w9.frozen? ⟨(w.heap.size + 1), 5, none⟩ = false := frozen_of_row w9 (w.heap.size + 1) 5 _ _ HI9.out.z
      have y6 : w9.frozen? ⟨(w.heap.size + 1), 6, none⟩ = false := frozen_of_row w9 (w.heap.size + 1) 6 _ _ HI9.out.z
      have y7 : w9.frozen? ⟨(w.heap.size + 1), 7, none⟩ = false := frozen_of_row w9 (w.heap.size + 1) 7 _ _ HI9.out.z
      simp only [List.getElem?_toArray, List.getElem?_cons_zero, List.getElem?_cons_succ] at z0 z1 z2 z3 z4 z5 z6 z7
      unfold badV stV
      go_wp2
      refine bodyPost_ret (v := badV (i : Int) 33) (by simp [results, Tryz.results44, go_sem, badV, stV, z0, z1, z2, z3, z4, z5, z6, z7]) rfl ⟨told8b HI9.out.bel _ _ _ _ _ _ _ _, Or.inl ⟨_, _, HR.out, by decide, rfl⟩⟩
    have hl2 : l.length < 20 := by omega
    have hl' : ¬ (20 : Int) ≤ (l.length : Int) := by omega
    go_wp2
    go_loop [7] (fun v7 => ∃ (k : Nat), v7 = .int .i64 (k : Int) ∧ k ≤ l.length ∧ Hid (∀ q (hq : q < l.length), q < k → l[q].1 ≠ s.extract i t)) (fun v7 => l.length - (intOf v7).toNat)
    case atStart => exact ⟨0, rfl, by omega, hid (fun q _ h => absurd h (by omega))⟩
    case round =>
      obtain ⟨k, rfl, hk, HQ⟩ := hrel
      by_cases hlt : k < l.length
      · obtain ⟨g, cap, e1, hg⟩ := att_form HI.out.row (by intro q; rw [q] at hlt; simp at hlt)
        simp only [Value.slice.injEq, true_and] at e1
        obtain ⟨rfl, rfl⟩ := e1
        obtain ⟨c0, c1⟩ := att_cells HI.out.row k hlt
        have hk' : (k : Int) < (l.length : Int) := by omega
        have se := str_eq l[k].1 (s.extract i t)
        by_cases hm : l[k].1 = s.extract i t
        · have HR : Hid (L.attrP s i l = .error ((i : Int), 32)) := by
            show _ = _
            unfold L.attrP
            simp only
            rw [HJ.out, if_neg (by rw [HN2.out]; simp), if_neg (by omega), if_pos (List.any_eq_true.2 ⟨l[k], List.getElem_mem hlt, by simpa using hm⟩)]
          have se' : (l[k].1.toList == (s.extract i t).toList) = true := by rw [se]; simp [hm]
          clear hm se
          generalize l[k].1 = xx at *
          go_wp2_with fail
          refine (rfails_any _ _ _).mono ?_
          rintro e w9 ⟨rfl, hb9⟩
          have HI9 := hid (HI.out.below hb9)
          clear hb9
          have z0 := cell_of_row w9 (w.heap.size + 1) 0 _ _ _ HI9.out.z
          have z1 := cell_of_row w9 (w.heap.size + 1) 1 _ _ _ HI9.out.z
          have z2 := cell_of_row w9 (w.heap.size + 1) 2 _ _ _ HI9.out.z
          have z3 := cell_of_row w9 (w.heap.size + 1) 3 _ _ _ HI9.out.z
          have z4 := cell_of_row w9 (w.heap.size + 1) 4 _ _ _ HI9.out.z
          have z5 := cell_of_row w9 (w.heap.size + 1) 5 _ _ _ HI9.out.z
          have z6 := cell_of_row w9 (w.heap.size + 1) 6 _ _ _ HI9.out.z
          have z7 := cell_of_row w9 (w.heap.size + 1) 7 _ _ _ HI9.out.z
          have y0 : w9.frozen? ⟨(w.heap.size + 1), 0, none⟩ = false := frozen_of_row w9 (w.heap.size + 1) 0 _ _ HI9.out.z
          have y1 : w9.frozen? ⟨(w.heap.size + 1), 1, none⟩ = false := frozen_of_row w9 (w.heap.size + 1) 1 _ _ HI9.out.z
          have y2 : w9.frozen? ⟨(w.heap.size + 1), 2, none⟩ = false := frozen_of_row w9 (w.heap.size + 1) 2 _ _ HI9.out.z
          have y3 : w9.frozen? ⟨(w.heap.size + 1), 3, none⟩ = false := frozen_of_row w9 (w.heap.size + 1) 3 _ _ HI9.out.z
          have y4 : w9.frozen? ⟨(w.heap.size + 1), 4, none⟩ = false := frozen_of_row w9 (w.heap.size + 1) 4 _ _ HI9.out.z
          have y5 : w9.frozen? ⟨(w.heap.size + 1), 5, none⟩ = false := frozen_of_row w9 (w.heap.size + 1) 5 _ _ HI9.out.z
          have y6 : w9.frozen? ⟨(w.heap.size + 1), 6, none⟩ = false := frozen_of_row w9 (w.heap.size + 1) 6 _ _ HI9.out.z
          have y7 : w9.frozen? ⟨(w.heap.size + 1), 7, none⟩ = false := frozen_of_row w9 (w.heap.size + 1) 7 _ _ HI9.out.z
          simp only [List.getElem?_toArray, List.getElem?_cons_zero, List.getElem?_cons_succ] at z0 z1 z2 z3 z4 z5 z6 z7
          unfold badV stV
          go_wp2
          refine bodyPost_ret (v := badV (i : Int) 32) (by simp [results, Tryz.results44, go_sem, badV, stV, z0, z1, z2, z3, z4, z5, z6, z7]) rfl ⟨told8b HI9.out.bel _ _ _ _ _ _ _ _, Or.inl ⟨_, _, HR.out, by decide, rfl⟩⟩
        · have se' : (l[k].1.toList == (s.extract i t).toList) = false := by rw [se]; simp [hm]
          have HQ2 : Hid (∀ q (hq : q < l.length), q < k + 1 → l[q].1 ≠ s.extract i t) := hid (fun q hq h => by
            by_cases hqk : q = k
            · subst hqk; exact hm
            · exact HQ.out q hq (by omega))
          clear hm se HQ
          go_wp2
          go_round
          case rel => exact ⟨k + 1, by go_num, by omega, HQ2⟩
          case measure => simp [intOf]; omega
      · have hk' : ¬ (k : Int) < (l.length : Int) := by omega
        have hany : (l.any fun a => decide (a.1 = s.extract i t)) = false := by
          rw [List.any_eq_false]
          intro x hx
          obtain ⟨q, hq, rfl⟩ := List.getElem_of_mem hx
          simpa using HQ.out q hq (by omega)
        have HY := hid hany
        clear hany HQ
        cases h4 : L.thereB s t [61] with
        | false =>
          have HR : Hid (L.attrP s i l = .error ((t : Int), 30)) := by show _ = _; unfold L.attrP; simp only; rw [HJ.out, if_neg (by rw [HN2.out]; simp), if_neg (by omega), if_neg (by rw [HY.out]; simp), if_pos h4]
          have H4 : Hid (L.thereB s t (ByteArray.mk #[61]).data.toList = false) := hid h4
          clear h4
          go_wp2_with fail
          refine (rthere_any s t ⟨#[61]⟩ false _ (by omega) (by omega) (by decide) H4).mono ?_
          rintro e w4 ⟨rfl, rfl⟩
          go_wp2_with fail
          refine (rfails_any _ _ _).mono ?_
          rintro e w9 ⟨rfl, hb9⟩
          have HI9 := hid (HI.out.below hb9)
          clear hb9
          have z0 := cell_of_row w9 (w.heap.size + 1) 0 _ _ _ HI9.out.z
          have z1 := cell_of_row w9 (w.heap.size + 1) 1 _ _ _ HI9.out.z
          have z2 := cell_of_row w9 (w.heap.size + 1) 2 _ _ _ HI9.out.z
          have z3 := cell_of_row w9 (w.heap.size + 1) 3 _ _ _ HI9.out.z
          have z4 := cell_of_row w9 (w.heap.size + 1) 4 _ _ _ HI9.out.z
          have z5 := cell_of_row w9 (w.heap.size + 1) 5 _ _ _ HI9.out.z
          have z6 := cell_of_row w9 (w.heap.size + 1) 6 _ _ _ HI9.out.z
          have z7 := cell_of_row w9 (w.heap.size + 1) 7 _ _ _ HI9.out.z
          have y0 : w9.frozen? ⟨(w.heap.size + 1), 0, none⟩ = false := frozen_of_row w9 (w.heap.size + 1) 0 _ _ HI9.out.z
          have y1 : w9.frozen? ⟨(w.heap.size + 1), 1, none⟩ = false := frozen_of_row w9 (w.heap.size + 1) 1 _ _ HI9.out.z
          have y2 : w9.frozen? ⟨(w.heap.size + 1), 2, none⟩ = false := frozen_of_row w9 (w.heap.size + 1) 2 _ _ HI9.out.z
          have y3 : w9.frozen? ⟨(w.heap.size + 1), 3, none⟩ = false := frozen_of_row w9 (w.heap.size + 1) 3 _ _ HI9.out.z
          have y4 : w9.frozen? ⟨(w.heap.size + 1), 4, none⟩ = false := frozen_of_row w9 (w.heap.size + 1) 4 _ _ HI9.out.z
          have y5 : w9.frozen? ⟨(w.heap.size + 1), 5, none⟩ = false := frozen_of_row w9 (w.heap.size + 1) 5 _ _ HI9.out.z
          have y6 : w9.frozen? ⟨(w.heap.size + 1), 6, none⟩ = false := frozen_of_row w9 (w.heap.size + 1) 6 _ _ HI9.out.z
          have y7 : w9.frozen? ⟨(w.heap.size + 1), 7, none⟩ = false := frozen_of_row w9 (w.heap.size + 1) 7 _ _ HI9.out.z
          simp only [List.getElem?_toArray, List.getElem?_cons_zero, List.getElem?_cons_succ] at z0 z1 z2 z3 z4 z5 z6 z7
          unfold badV stV
          go_wp2
          refine bodyPost_ret (v := badV (t : Int) 30) (by simp [results, Tryz.results44, go_sem, badV, stV, z0, z1, z2, z3, z4, z5, z6, z7]) rfl ⟨told8b HI9.out.bel _ _ _ _ _ _ _ _, Or.inl ⟨_, _, HR.out, by decide, rfl⟩⟩
        | true =>
          have H4 : Hid (L.thereB s t (ByteArray.mk #[61]).data.toList = true) := hid h4
          have H4b := hid h4
          have t3 := L.there_lt h4
          clear h4
          go_wp2_with fail
          refine (rthere_any s t ⟨#[61]⟩ true _ (by omega) (by omega) (by decide) H4).mono ?_
          rintro e w4 ⟨rfl, rfl⟩
          cases h5 : L.thereB s (t + 1) [34] with
          | false =>
            have HR : Hid (L.attrP s i l = .error (((t + 1 : Nat) : Int), 30)) := by show _ = _; unfold L.attrP; simp only; rw [HJ.out, if_neg (by rw [HN2.out]; simp), if_neg (by omega), if_neg (by rw [HY.out]; simp), if_neg (by rw [H4b.out]; simp), if_pos h5]
            have H5 : Hid (L.thereB s (t + 1) (ByteArray.mk #[34]).data.toList = false) := hid h5
            clear h5
            go_wp2_with fail
            refine (rthere_any s (t + 1) ⟨#[34]⟩ false _ (by omega) (by omega) (by decide) H5).mono ?_
            rintro e w4 ⟨rfl, rfl⟩
            go_wp2_with fail
            refine (rfails_any _ _ _).mono ?_
            rintro e w9 ⟨rfl, hb9⟩
            have HI9 := hid (HI.out.below hb9)
            clear hb9
            have z0 := cell_of_row w9 (w.heap.size + 1) 0 _ _ _ HI9.out.z
            have z1 := cell_of_row w9 (w.heap.size + 1) 1 _ _ _ HI9.out.z
            have z2 := cell_of_row w9 (w.heap.size + 1) 2 _ _ _ HI9.out.z
            have z3 := cell_of_row w9 (w.heap.size + 1) 3 _ _ _ HI9.out.z
            have z4 := cell_of_row w9 (w.heap.size + 1) 4 _ _ _ HI9.out.z
            have z5 := cell_of_row w9 (w.heap.size + 1) 5 _ _ _ HI9.out.z
            have z6 := cell_of_row w9 (w.heap.size + 1) 6 _ _ _ HI9.out.z
            have z7 := cell_of_row w9 (w.heap.size + 1) 7 _ _ _ HI9.out.z
            have y0 : w9.frozen? ⟨(w.heap.size + 1), 0, none⟩ = false := frozen_of_row w9 (w.heap.size + 1) 0 _ _ HI9.out.z
            have y1 : w9.frozen? ⟨(w.heap.size + 1), 1, none⟩ = false := frozen_of_row w9 (w.heap.size + 1) 1 _ _ HI9.out.z
            have y2 : w9.frozen? ⟨(w.heap.size + 1), 2, none⟩ = false := frozen_of_row w9 (w.heap.size + 1) 2 _ _ HI9.out.z
            have y3 : w9.frozen? ⟨(w.heap.size + 1), 3, none⟩ = false := frozen_of_row w9 (w.heap.size + 1) 3 _ _ HI9.out.z
            have y4 : w9.frozen? ⟨(w.heap.size + 1), 4, none⟩ = false := frozen_of_row w9 (w.heap.size + 1) 4 _ _ HI9.out.z
            have y5 : w9.frozen? ⟨(w.heap.size + 1), 5, none⟩ = false := frozen_of_row w9 (w.heap.size + 1) 5 _ _ HI9.out.z
            have y6 : w9.frozen? ⟨(w.heap.size + 1), 6, none⟩ = false := frozen_of_row w9 (w.heap.size + 1) 6 _ _ HI9.out.z
            have y7 : w9.frozen? ⟨(w.heap.size + 1), 7, none⟩ = false := frozen_of_row w9 (w.heap.size + 1) 7 _ _ HI9.out.z
            simp only [List.getElem?_toArray, List.getElem?_cons_zero, List.getElem?_cons_succ] at z0 z1 z2 z3 z4 z5 z6 z7
            unfold badV stV
            go_wp2
            refine bodyPost_ret (v := badV ((t + 1 : Nat) : Int) 30) (by simp [results, Tryz.results44, go_sem, badV, stV, z0, z1, z2, z3, z4, z5, z6, z7]) rfl ⟨told8b HI9.out.bel _ _ _ _ _ _ _ _, Or.inl ⟨_, _, HR.out, by decide, rfl⟩⟩
          | true =>
            have H5 : Hid (L.thereB s (t + 1) (ByteArray.mk #[34]).data.toList = true) := hid h5
            have H5b := hid h5
            have t4 := L.there_lt h5
            clear h5
            obtain ⟨q, HK⟩ : ∃ q, Hid (L.runP (L.notB 34) s (t + 2) = q) := ⟨_, hid rfl⟩
            have q1 : t + 2 ≤ q := by rw [← HK.out]; exact L.run_ge _ _ _
            have q2 : q ≤ s.size := by rw [← HK.out]; exact L.run_le t4
            go_wp2_with fail
            refine (rthere_any s (t + 1) ⟨#[34]⟩ true _ (by omega) (by omega) (by decide) H5).mono ?_
            rintro e w4 ⟨rfl, rfl⟩
            go_wp2_with fail
            refine (rfind_any s 34 (t + 2) q _ t4 (by omega) HK).mono ?_
            rintro e w4 ⟨rfl, rfl⟩
            by_cases h6 : q = s.size
            · have HR : Hid (L.attrP s i l = .error ((q : Int), 30)) := by show _ = _; unfold L.attrP; simp only; rw [HJ.out, if_neg (by rw [HN2.out]; simp), if_neg (by omega), if_neg (by rw [HY.out]; simp), if_neg (by rw [H4b.out]; simp), if_neg (by rw [H5b.out]; simp), HK.out, if_pos (by omega)]
              have h6' : ((q : Int) == (s.size : Int)) = true := beq_iff_eq.2 (by omega)
              clear h6
              go_wp2_with fail
              refine (rfails_any _ _ _).mono ?_
              rintro e w9 ⟨rfl, hb9⟩
              have HI9 := hid (HI.out.below hb9)
              clear hb9
              have z0 := cell_of_row w9 (w.heap.size + 1) 0 _ _ _ HI9.out.z
              have z1 := cell_of_row w9 (w.heap.size + 1) 1 _ _ _ HI9.out.z
              have z2 := cell_of_row w9 (w.heap.size + 1) 2 _ _ _ HI9.out.z
              have z3 := cell_of_row w9 (w.heap.size + 1) 3 _ _ _ HI9.out.z
              have z4 := cell_of_row w9 (w.heap.size + 1) 4 _ _ _ HI9.out.z
              have z5 := cell_of_row w9 (w.heap.size + 1) 5 _ _ _ HI9.out.z
              have z6 := cell_of_row w9 (w.heap.size + 1) 6 _ _ _ HI9.out.z
              have z7 := cell_of_row w9 (w.heap.size + 1) 7 _ _ _ HI9.out.z
              have y0 : w9.frozen? ⟨(w.heap.size + 1), 0, none⟩ = false := frozen_of_row w9 (w.heap.size + 1) 0 _ _ HI9.out.z
              have y1 : w9.frozen? ⟨(w.heap.size + 1), 1, none⟩ = false := frozen_of_row w9 (w.heap.size + 1) 1 _ _ HI9.out.z
              have y2 : w9.frozen? ⟨(w.heap.size + 1), 2, none⟩ = false := frozen_of_row w9 (w.heap.size + 1) 2 _ _ HI9.out.z
              have y3 : w9.frozen? ⟨(w.heap.size + 1), 3, none⟩ = false := frozen_of_row w9 (w.heap.size + 1) 3 _ _ HI9.out.z
              have y4 : w9.frozen? ⟨(w.heap.size + 1), 4, none⟩ = false := frozen_of_row w9 (w.heap.size + 1) 4 _ _ HI9.out.z
              have y5 : w9.frozen? ⟨(w.heap.size + 1), 5, none⟩ = false := frozen_of_row w9 (w.heap.size + 1) 5 _ _ HI9.out.z
              have y6 : w9.frozen? ⟨(w.heap.size + 1), 6, none⟩ = false := frozen_of_row w9 (w.heap.size + 1) 6 _ _ HI9.out.z
              have y7 : w9.frozen? ⟨(w.heap.size + 1), 7, none⟩ = false := frozen_of_row w9 (w.heap.size + 1) 7 _ _ HI9.out.z
              simp only [List.getElem?_toArray, List.getElem?_cons_zero, List.getElem?_cons_succ] at z0 z1 z2 z3 z4 z5 z6 z7
              unfold badV stV
              go_wp2
              refine bodyPost_ret (v := badV (q : Int) 30) (by simp [results, Tryz.results44, go_sem, badV, stV, z0, z1, z2, z3, z4, z5, z6, z7]) rfl ⟨told8b HI9.out.bel _ _ _ _ _ _ _ _, Or.inl ⟨_, _, HR.out, by decide, rfl⟩⟩
            have h6' : ((q : Int) == (s.size : Int)) = false := beq_eq_false_iff_ne.2 (by omega)
            have q3 : q < s.size := by omega
            clear h6
            obtain ⟨⟨u, n, e0⟩, HU⟩ : ∃ x, Hid (L.undoB true (s.extract (t + 2) q) = x) := ⟨_, hid rfl⟩
            have HS2 : Hid ((s.extract (t + 2) q).size ≤ 20000) := by show _ ≤ _; simp; omega
            have hn : n ≤ 20000 := Nat.le_trans (L.undo_place HU.out) HS2.out
            go_wp2_with fail
            refine (rundo_any _ true u n e0 _ HS2.out (hid (undo_pair HU.out))).mono ?_
            rintro e w5 ⟨rfl, hb5⟩
            have HI5 := hid (HI.out.below hb5)
            clear hb5 HI x0 x5
            have HI := HI5
            clear HI5
            have x0 := cell_of_row w5 w.heap.size 0 _ _ _ HI.out.x
            have x5 := cell_of_row w5 w.heap.size 5 _ _ _ HI.out.x
            simp only [List.getElem?_toArray, List.getElem?_cons_zero, List.getElem?_cons_succ] at x0 x5
            by_cases he : e0 = 0
            · subst he
              by_cases hlg : 1500 < u.size
              · have HR : Hid (L.attrP s i l = .error (((t + 1 : Nat) : Int), 34)) := by show _ = _; unfold L.attrP; simp only; rw [HJ.out, if_neg (by rw [HN2.out]; simp), if_neg (by omega), if_neg (by rw [HY.out]; simp), if_neg (by rw [H4b.out]; simp), if_neg (by rw [H5b.out]; simp), HK.out, if_neg (by omega), HU.out, if_neg (by simp), if_pos hlg]
                go_wp2_with fail
                refine (rfails_any _ _ _).mono ?_
                rintro e w9 ⟨rfl, hb9⟩
                have HI9 := hid (HI.out.below hb9)
                clear hb9
                have z0 := cell_of_row w9 (w.heap.size + 1) 0 _ _ _ HI9.out.z
                have z1 := cell_of_row w9 (w.heap.size + 1) 1 _ _ _ HI9.out.z
                have z2 := cell_of_row w9 (w.heap.size + 1) 2 _ _ _ HI9.out.z
                have z3 := cell_of_row w9 (w.heap.size + 1) 3 _ _ _ HI9.out.z
                have z4 := cell_of_row w9 (w.heap.size + 1) 4 _ _ _ HI9.out.z
                have z5 := cell_of_row w9 (w.heap.size + 1) 5 _ _ _ HI9.out.z
                have z6 := cell_of_row w9 (w.heap.size + 1) 6 _ _ _ HI9.out.z
                have z7 := cell_of_row w9 (w.heap.size + 1) 7 _ _ _ HI9.out.z
                have y0 : w9.frozen? ⟨(w.heap.size + 1), 0, none⟩ = false := frozen_of_row w9 (w.heap.size + 1) 0 _ _ HI9.out.z
                have y1 : w9.frozen? ⟨(w.heap.size + 1), 1, none⟩ = false := frozen_of_row w9 (w.heap.size + 1) 1 _ _ HI9.out.z
                have y2 : w9.frozen? ⟨(w.heap.size + 1), 2, none⟩ = false := frozen_of_row w9 (w.heap.size + 1) 2 _ _ HI9.out.z
                have y3 : w9.frozen? ⟨(w.heap.size + 1), 3, none⟩ = false := frozen_of_row w9 (w.heap.size + 1) 3 _ _ HI9.out.z
                have y4 : w9.frozen? ⟨(w.heap.size + 1), 4, none⟩ = false := frozen_of_row w9 (w.heap.size + 1) 4 _ _ HI9.out.z
                have y5 : w9.frozen? ⟨(w.heap.size + 1), 5, none⟩ = false := frozen_of_row w9 (w.heap.size + 1) 5 _ _ HI9.out.z
                have y6 : w9.frozen? ⟨(w.heap.size + 1), 6, none⟩ = false := frozen_of_row w9 (w.heap.size + 1) 6 _ _ HI9.out.z
                have y7 : w9.frozen? ⟨(w.heap.size + 1), 7, none⟩ = false := frozen_of_row w9 (w.heap.size + 1) 7 _ _ HI9.out.z
                simp only [List.getElem?_toArray, List.getElem?_cons_zero, List.getElem?_cons_succ] at z0 z1 z2 z3 z4 z5 z6 z7
                unfold badV stV
                go_wp2
                refine bodyPost_ret (v := badV ((t + 1 : Nat) : Int) 34) (by simp [results, Tryz.results44, go_sem, badV, stV, z0, z1, z2, z3, z4, z5, z6, z7]) rfl ⟨told8b HI9.out.bel _ _ _ _ _ _ _ _, Or.inl ⟨_, _, HR.out, by decide, rfl⟩⟩
              · have HR : Hid (L.attrP s i l = .ok ((s.extract i t, u), q + 1)) := by show _ = _; unfold L.attrP; simp only; rw [HJ.out, if_neg (by rw [HN2.out]; simp), if_neg (by omega), if_neg (by rw [HY.out]; simp), if_neg (by rw [H4b.out]; simp), if_neg (by rw [H5b.out]; simp), HK.out, if_neg (by omega), HU.out, if_neg (by simp), if_neg hlg]
                go_wp2_with fail
                refine (rwith_any (s.extract i t, u) l _ _ b1 HI.out.row hl).mono ?_
                rintro e w6 ⟨hb6, v', rfl, hrow6⟩
                obtain ⟨ao6, cp6, rfl⟩ := att_len hrow6
                have HI6 := hid (HI.out.below hb6)
                have bs : w.heap.size + 1 < w5.heap.size := lt_of_block HI.out.z
                have HW6 := hid hrow6
                clear hb6 hrow6
                have x0 := cell_of_row w6 w.heap.size 0 _ _ _ HI6.out.x
                have fx0 : w6.frozen? ⟨w.heap.size, 0, none⟩ = false := frozen_of_row w6 w.heap.size 0 _ _ HI6.out.x
                have x1 := cell_of_row w6 w.heap.size 1 _ _ _ HI6.out.x
                have fx1 : w6.frozen? ⟨w.heap.size, 1, none⟩ = false := frozen_of_row w6 w.heap.size 1 _ _ HI6.out.x
                have x2 := cell_of_row w6 w.heap.size 2 _ _ _ HI6.out.x
                have fx2 : w6.frozen? ⟨w.heap.size, 2, none⟩ = false := frozen_of_row w6 w.heap.size 2 _ _ HI6.out.x
                have x3 := cell_of_row w6 w.heap.size 3 _ _ _ HI6.out.x
                have fx3 : w6.frozen? ⟨w.heap.size, 3, none⟩ = false := frozen_of_row w6 w.heap.size 3 _ _ HI6.out.x
                have x4 := cell_of_row w6 w.heap.size 4 _ _ _ HI6.out.x
                have fx4 : w6.frozen? ⟨w.heap.size, 4, none⟩ = false := frozen_of_row w6 w.heap.size 4 _ _ HI6.out.x
                have x5 := cell_of_row w6 w.heap.size 5 _ _ _ HI6.out.x
                have fx5 : w6.frozen? ⟨w.heap.size, 5, none⟩ = false := frozen_of_row w6 w.heap.size 5 _ _ HI6.out.x
                have x6 := cell_of_row w6 w.heap.size 6 _ _ _ HI6.out.x
                have fx6 : w6.frozen? ⟨w.heap.size, 6, none⟩ = false := frozen_of_row w6 w.heap.size 6 _ _ HI6.out.x
                have x7 := cell_of_row w6 w.heap.size 7 _ _ _ HI6.out.x
                have fx7 : w6.frozen? ⟨w.heap.size, 7, none⟩ = false := frozen_of_row w6 w.heap.size 7 _ _ HI6.out.x
                simp only [List.getElem?_toArray, List.getElem?_cons_zero, List.getElem?_cons_succ] at x0 x1 x2 x3 x4 x5 x6 x7
                have z0 := cell_of_row w6 (w.heap.size + 1) 0 _ _ _ HI6.out.z
                have z1 := cell_of_row w6 (w.heap.size + 1) 1 _ _ _ HI6.out.z
                have z2 := cell_of_row w6 (w.heap.size + 1) 2 _ _ _ HI6.out.z
                have z3 := cell_of_row w6 (w.heap.size + 1) 3 _ _ _ HI6.out.z
                have z4 := cell_of_row w6 (w.heap.size + 1) 4 _ _ _ HI6.out.z
                have z5 := cell_of_row w6 (w.heap.size + 1) 5 _ _ _ HI6.out.z
                have z6 := cell_of_row w6 (w.heap.size + 1) 6 _ _ _ HI6.out.z
                have z7 := cell_of_row w6 (w.heap.size + 1) 7 _ _ _ HI6.out.z
                have y0 : w6.frozen? ⟨(w.heap.size + 1), 0, none⟩ = false := frozen_of_row w6 (w.heap.size + 1) 0 _ _ HI6.out.z
                have y1 : w6.frozen? ⟨(w.heap.size + 1), 1, none⟩ = false := frozen_of_row w6 (w.heap.size + 1) 1 _ _ HI6.out.z
                have y2 : w6.frozen? ⟨(w.heap.size + 1), 2, none⟩ = false := frozen_of_row w6 (w.heap.size + 1) 2 _ _ HI6.out.z
                have y3 : w6.frozen? ⟨(w.heap.size + 1), 3, none⟩ = false := frozen_of_row w6 (w.heap.size + 1) 3 _ _ HI6.out.z
                have y4 : w6.frozen? ⟨(w.heap.size + 1), 4, none⟩ = false := frozen_of_row w6 (w.heap.size + 1) 4 _ _ HI6.out.z
                have y5 : w6.frozen? ⟨(w.heap.size + 1), 5, none⟩ = false := frozen_of_row w6 (w.heap.size + 1) 5 _ _ HI6.out.z
                have y6 : w6.frozen? ⟨(w.heap.size + 1), 6, none⟩ = false := frozen_of_row w6 (w.heap.size + 1) 6 _ _ HI6.out.z
                have y7 : w6.frozen? ⟨(w.heap.size + 1), 7, none⟩ = false := frozen_of_row w6 (w.heap.size + 1) 7 _ _ HI6.out.z
                simp only [List.getElem?_toArray, List.getElem?_cons_zero, List.getElem?_cons_succ] at z0 z1 z2 z3 z4 z5 z6 z7
                have BB := hid ((HI6.out.bel.setCell (p := ⟨w.heap.size, 5, none⟩) (Nat.le_refl _) (.slice ao6 (L.insA (s.extract i t, u) l).length cp6)).setCell (p := ⟨w.heap.size, 0, none⟩) (Nat.le_refl _) (.int .i64 ((q : Int) + 1)))
                have RR := hid (ownsRow_setCell_below (ownsRow_setCell_below HW6.out (a := ⟨w.heap.size, 5, none⟩) (by show w.heap.size < _; omega) (.slice ao6 (L.insA (s.extract i t, u) l).length cp6)) (a := ⟨w.heap.size, 0, none⟩) (by show w.heap.size < _; omega) (.int .i64 ((q : Int) + 1)))
                go_wp2
                refine bodyPost_ret (v := stV ((q + 1 : Nat) : Int) 0 p nm ⟨#[]⟩ (.slice ao6 (L.insA (s.extract i t, u) l).length cp6) 0 0) (by simp [results, Tryz.results44, go_sem, stV, z0, z1, z2, z3, z4, z5, z6, z7]) rfl ⟨told8b BB.out _ _ _ _ _ _ _ _, Or.inr ⟨_, _, .slice ao6 (L.insA (s.extract i t, u) l).length cp6, HR.out, rfl, told8s RR.out (by omega) _ _ _ _ _ _ _ _⟩⟩
            · have b9 : (e0 != 0) = true := bne_iff_ne.2 he
              have HE := hid he
              have HR : Hid (L.attrP s i l = .error (((t + 2 + n : Nat) : Int), e0)) := by show _ = _; unfold L.attrP; simp only; rw [HJ.out, if_neg (by rw [HN2.out]; simp), if_neg (by omega), if_neg (by rw [HY.out]; simp), if_neg (by rw [H4b.out]; simp), if_neg (by rw [H5b.out]; simp), HK.out, if_neg (by omega), HU.out, if_pos he]
              clear he
              go_wp2_with fail
              rw [show ((t : Int) + 2 + (n : Int)) = ((t + 2 + n : Nat) : Int) by omega]
              refine (rfails_any _ _ _).mono ?_
              rintro e w9 ⟨rfl, hb9⟩
              have HI9 := hid (HI.out.below hb9)
              clear hb9
              have z0 := cell_of_row w9 (w.heap.size + 1) 0 _ _ _ HI9.out.z
              have z1 := cell_of_row w9 (w.heap.size + 1) 1 _ _ _ HI9.out.z
              have z2 := cell_of_row w9 (w.heap.size + 1) 2 _ _ _ HI9.out.z
              have z3 := cell_of_row w9 (w.heap.size + 1) 3 _ _ _ HI9.out.z
              have z4 := cell_of_row w9 (w.heap.size + 1) 4 _ _ _ HI9.out.z
              have z5 := cell_of_row w9 (w.heap.size + 1) 5 _ _ _ HI9.out.z
              have z6 := cell_of_row w9 (w.heap.size + 1) 6 _ _ _ HI9.out.z
              have z7 := cell_of_row w9 (w.heap.size + 1) 7 _ _ _ HI9.out.z
              have y0 : w9.frozen? ⟨(w.heap.size + 1), 0, none⟩ = false := frozen_of_row w9 (w.heap.size + 1) 0 _ _ HI9.out.z
              have y1 : w9.frozen? ⟨(w.heap.size + 1), 1, none⟩ = false := frozen_of_row w9 (w.heap.size + 1) 1 _ _ HI9.out.z
              have y2 : w9.frozen? ⟨(w.heap.size + 1), 2, none⟩ = false := frozen_of_row w9 (w.heap.size + 1) 2 _ _ HI9.out.z
              have y3 : w9.frozen? ⟨(w.heap.size + 1), 3, none⟩ = false := frozen_of_row w9 (w.heap.size + 1) 3 _ _ HI9.out.z
              have y4 : w9.frozen? ⟨(w.heap.size + 1), 4, none⟩ = false := frozen_of_row w9 (w.heap.size + 1) 4 _ _ HI9.out.z
              have y5 : w9.frozen? ⟨(w.heap.size + 1), 5, none⟩ = false := frozen_of_row w9 (w.heap.size + 1) 5 _ _ HI9.out.z
              have y6 : w9.frozen? ⟨(w.heap.size + 1), 6, none⟩ = false := frozen_of_row w9 (w.heap.size + 1) 6 _ _ HI9.out.z
              have y7 : w9.frozen? ⟨(w.heap.size + 1), 7, none⟩ = false := frozen_of_row w9 (w.heap.size + 1) 7 _ _ HI9.out.z
              simp only [List.getElem?_toArray, List.getElem?_cons_zero, List.getElem?_cons_succ] at z0 z1 z2 z3 z4 z5 z6 z7
              unfold badV stV
              go_wp2
              refine bodyPost_ret (v := badV ((t + 2 + n : Nat) : Int) e0) (by simp [results, Tryz.results44, go_sem, badV, stV, z0, z1, z2, z3, z4, z5, z6, z7]) rfl ⟨told8b HI9.out.bel _ _ _ _ _ _ _ _, Or.inl ⟨_, _, HR.out, HE.out, rfl⟩⟩
end Go.Proofs.YtafjffnijonglaaGreatDoor
namespace Go.Proofs.YtafjffnijonglaaGreatDoor
open Go.RowKit Go.Shelf
/-- What stays while begin's loop runs: its result's cells, its own state, the attributes. -/
structure BegIn (w : World) (B i p : Nat) (nm : ByteArray) (v : Value) (l : List L.Attr) (W : World) : Prop where
  z : W.heap[w.heap.size]? = some zeroS
  x : W.heap[B]? = some (xObj i p nm v)
  row : W.ownsRow (B + 1) 67 2 v l.length (encL l)
  bel : Below w.heap.size w W
  lt : w.heap.size < B
theorem BegIn.below {w : World} {B i p : Nat} {nm : ByteArray} {v : Value} {l : List L.Attr} {W W' : World} (h : BegIn w B i p nm v l W) (hb : Below W.heap.size W W') : BegIn w B i p nm v l W' :=
  ⟨(hb.block _ (lt_of_block h.z)).trans h.z, (hb.block _ (lt_of_block h.x)).trans h.x, row_below h.row hb, h.bel.trans (hb.mono h.bel.size), h.lt⟩
theorem begIn_start (w w2 : World) (i p : Nat) (nm : ByteArray) (hz : w2.heap[w.heap.size]? = some zeroS) (hb : Below w.heap.size w w2) : BegIn w w2.heap.size i p nm (.slice none 0 0) [] (w2.alloc (xObj i p nm (.slice none 0 0))) := by
  have h := lt_of_block hz
  exact ⟨by rw [Below.heap_alloc _ _ _ h]; exact hz, heap_alloc_new w2 _, World.ownsRow_nil _ _ _ _, hb.alloc hb.size _, h⟩
/-- A field of the state is written. -/
theorem BegIn.set0 {w : World} {B i p : Nat} {nm : ByteArray} {v : Value} {l : List L.Attr} {W : World} (h : BegIn w B i p nm v l W) (k : Nat) : BegIn w B k p nm v l (W.setCell ⟨B, 0, none⟩ (.int .i64 (k : Int))) :=
  ⟨by rw [heap_setCell_other W ⟨B, 0, none⟩ w.heap.size _ (by have := h.lt; show w.heap.size ≠ B; omega)]; exact h.z, by rw [heap_setCell_same W B 0 _ _ _ h.x]; rfl, ownsRow_setCell_below h.row (Nat.lt_succ_self B) _, h.bel.setCell (p := ⟨B, 0, none⟩) (Nat.le_of_lt h.lt) _, h.lt⟩
/-- The state is written whole. -/
theorem BegIn.put {w : World} {B i p : Nat} {nm : ByteArray} {v : Value} {l : List L.Attr} {W : World} (h : BegIn w B i p nm v l W) (n : Nat) (v' : Value) (l' : List L.Attr) {base : Nat} (hr : W.ownsRow base 67 2 v' l'.length (encL l')) (hb : B < base) :
    BegIn w B n p nm v' l' ((((((((W.setCell ⟨B, 0, none⟩ (.int .i64 (n : Int))).setCell ⟨B, 1, none⟩ (.int .i64 0)).setCell ⟨B, 2, none⟩ (.int .i64 (p : Int))).setCell ⟨B, 3, none⟩ (.string nm)).setCell ⟨B, 4, none⟩ (.string ⟨#[]⟩)).setCell ⟨B, 5, none⟩ v').setCell ⟨B, 6, none⟩ (.int .i64 0)).setCell ⟨B, 7, none⟩ (.int .i64 0)) := by
  have hne : w.heap.size ≠ B := by have := h.lt; omega
  refine ⟨?_, ?_, ?_, ?_, h.lt⟩
  · rw [heap_setCell_other _ ⟨B, 7, none⟩ w.heap.size _ hne, heap_setCell_other _ ⟨B, 6, none⟩ w.heap.size _ hne, heap_setCell_other _ ⟨B, 5, none⟩ w.heap.size _ hne, heap_setCell_other _ ⟨B, 4, none⟩ w.heap.size _ hne, heap_setCell_other _ ⟨B, 3, none⟩ w.heap.size _ hne, heap_setCell_other _ ⟨B, 2, none⟩ w.heap.size _ hne, heap_setCell_other _ ⟨B, 1, none⟩ w.heap.size _ hne, heap_setCell_other _ ⟨B, 0, none⟩ w.heap.size _ hne]
    exact h.z
  · have s0 : (W.setCell ⟨B, 0, none⟩ (.int .i64 (n : Int))).heap[B]? = some (xObj n p nm v) := (heap_setCell_same _ B 0 _ _ _ h.x).trans rfl
    have s1 : ((W.setCell ⟨B, 0, none⟩ (.int .i64 (n : Int))).setCell ⟨B, 1, none⟩ (.int .i64 0)).heap[B]? = some (xObj n p nm v) := (heap_setCell_same _ B 1 _ _ _ s0).trans rfl
    have s2 : (((W.setCell ⟨B, 0, none⟩ (.int .i64 (n : Int))).setCell ⟨B, 1, none⟩ (.int .i64 0)).setCell ⟨B, 2, none⟩ (.int .i64 (p : Int))).heap[B]? = some (xObj n p nm v) := (heap_setCell_same _ B 2 _ _ _ s1).trans rfl
    have s3 : ((((W.setCell ⟨B, 0, none⟩ (.int .i64 (n : Int))).setCell ⟨B, 1, none⟩ (.int .i64 0)).setCell ⟨B, 2, none⟩ (.int .i64 (p : Int))).setCell ⟨B, 3, none⟩ (.string nm)).heap[B]? = some (xObj n p nm v) := (heap_setCell_same _ B 3 _ _ _ s2).trans rfl
    have s4 : (((((W.setCell ⟨B, 0, none⟩ (.int .i64 (n : Int))).setCell ⟨B, 1, none⟩ (.int .i64 0)).setCell ⟨B, 2, none⟩ (.int .i64 (p : Int))).setCell ⟨B, 3, none⟩ (.string nm)).setCell ⟨B, 4, none⟩ (.string ⟨#[]⟩)).heap[B]? = some (xObj n p nm v) := (heap_setCell_same _ B 4 _ _ _ s3).trans rfl
    have s5 : ((((((W.setCell ⟨B, 0, none⟩ (.int .i64 (n : Int))).setCell ⟨B, 1, none⟩ (.int .i64 0)).setCell ⟨B, 2, none⟩ (.int .i64 (p : Int))).setCell ⟨B, 3, none⟩ (.string nm)).setCell ⟨B, 4, none⟩ (.string ⟨#[]⟩)).setCell ⟨B, 5, none⟩ v').heap[B]? = some (xObj n p nm v') := (heap_setCell_same _ B 5 _ _ _ s4).trans rfl
    have s6 : (((((((W.setCell ⟨B, 0, none⟩ (.int .i64 (n : Int))).setCell ⟨B, 1, none⟩ (.int .i64 0)).setCell ⟨B, 2, none⟩ (.int .i64 (p : Int))).setCell ⟨B, 3, none⟩ (.string nm)).setCell ⟨B, 4, none⟩ (.string ⟨#[]⟩)).setCell ⟨B, 5, none⟩ v').setCell ⟨B, 6, none⟩ (.int .i64 0)).heap[B]? = some (xObj n p nm v') := (heap_setCell_same _ B 6 _ _ _ s5).trans rfl
    have s7 : ((((((((W.setCell ⟨B, 0, none⟩ (.int .i64 (n : Int))).setCell ⟨B, 1, none⟩ (.int .i64 0)).setCell ⟨B, 2, none⟩ (.int .i64 (p : Int))).setCell ⟨B, 3, none⟩ (.string nm)).setCell ⟨B, 4, none⟩ (.string ⟨#[]⟩)).setCell ⟨B, 5, none⟩ v').setCell ⟨B, 6, none⟩ (.int .i64 0)).setCell ⟨B, 7, none⟩ (.int .i64 0)).heap[B]? = some (xObj n p nm v') := (heap_setCell_same _ B 7 _ _ _ s6).trans rfl
    exact s7
  · have hl : ∀ q, (⟨B, q, none⟩ : Addr).block < base := fun q => hb
    have r := ownsRow_setCell_below (ownsRow_setCell_below (ownsRow_setCell_below (ownsRow_setCell_below (ownsRow_setCell_below (ownsRow_setCell_below (ownsRow_setCell_below (ownsRow_setCell_below hr (hl 0) (.int .i64 (n : Int))) (hl 1) (.int .i64 0)) (hl 2) (.int .i64 (p : Int))) (hl 3) (.string nm)) (hl 4) (.string ⟨#[]⟩)) (hl 5) v') (hl 6) (.int .i64 0)) (hl 7) (.int .i64 0)
    exact row_base r hb
  · have hle := Nat.le_of_lt h.lt
    exact (((((((h.bel.setCell (p := ⟨B, 0, none⟩) hle (.int .i64 (n : Int))).setCell (p := ⟨B, 1, none⟩) hle (.int .i64 0)).setCell (p := ⟨B, 2, none⟩) hle (.int .i64 (p : Int))).setCell (p := ⟨B, 3, none⟩) hle (.string nm)).setCell (p := ⟨B, 4, none⟩) hle (.string ⟨#[]⟩)).setCell (p := ⟨B, 5, none⟩) hle v').setCell (p := ⟨B, 6, none⟩) hle (.int .i64 0)).setCell (p := ⟨B, 7, none⟩) hle (.int .i64 0)
/-- The place in the state at block B. -/
def posOf (B : Nat) (w : World) : Nat := match w.cell? ⟨B, 0, none⟩ with | some v => (intOf v).toNat | none => 0
theorem BegIn.pos {w : World} {B i p : Nat} {nm : ByteArray} {v : Value} {l : List L.Attr} {W : World} (h : BegIn w B i p nm v l W) : posOf B W = i := by
  unfold posOf
  rw [cell_of_row W B 0 _ _ _ h.x]
  simp [intOf]
theorem L.beg_err' {s : ByteArray} {i j : Nat} {e : L.Bad} (hj : L.runP L.wordB s (i + 1) = j) (hn : L.nameP (s.extract (i + 1) j) = true) (h : L.attrsF (s.size + 1) s j [] = .error e) : L.begP s i = .error e := L.beg_err hj hn h
set_option maxRecDepth 100000 in
set_option maxHeartbeats 16000000 in
theorem rbeg_st (s : ByteArray) (i : Nat) (w : World) (hi : i < s.size) (hz : s.size ≤ 20000) :
    Calls Tryz.prog 27 #[.string s, .int .i64 (i : Int)] w (StPost w (L.begP s i)) := by
  have i1 : i + 1 ≤ s.size := by omega
  obtain ⟨j, HJ⟩ : ∃ j, Hid (L.runP L.wordB s (i + 1) = j) := ⟨_, hid rfl⟩
  have j1 : i + 1 ≤ j := by rw [← HJ.out]; exact L.run_ge _ _ _
  have j2 : j ≤ s.size := by rw [← HJ.out]; exact L.run_le i1
  have HS : Hid ((s.extract (i + 1) j).size ≤ 1048576) := by show _ ≤ _; simp; omega
  go_enter Tryz.func27, Tryz.ntmps27
  go_wp2_with fail
  refine (rword_any s (i + 1) j _ i1 (by omega) HJ).mono ?_
  rintro e w1 ⟨rfl, rfl⟩
  cases hn : L.nameP (s.extract (i + 1) j) with
  | false =>
    have HR : Hid (L.begP s i = .error (((i + 1 : Nat) : Int), 31)) := by show _ = _; unfold L.begP; simp only; rw [HJ.out, if_pos hn]
    have HN := hid hn
    clear hn
    go_wp2_with fail
    refine (rname_any _ false _ HS.out HN).mono ?_
    rintro e w2 ⟨rfl, hb2⟩
    have Z := hid (zero_kept w hb2)
    have HB := hid (below_new w zeroS hb2)
    clear hb2
    go_wp2_with fail
    refine (rfails_any _ _ _).mono ?_
    rintro e w9 ⟨rfl, hb9⟩
    have Z9 := hid ((hb9.block _ (lt_of_block Z.out)).trans Z.out)
    have HB9 := hid (HB.out.trans (hb9.mono HB.out.size))
    clear hb9
    have z0 := cell_of_row w9 w.heap.size 0 _ _ _ Z9.out
    have z1 := cell_of_row w9 w.heap.size 1 _ _ _ Z9.out
    have z2 := cell_of_row w9 w.heap.size 2 _ _ _ Z9.out
    have z3 := cell_of_row w9 w.heap.size 3 _ _ _ Z9.out
    have z4 := cell_of_row w9 w.heap.size 4 _ _ _ Z9.out
    have z5 := cell_of_row w9 w.heap.size 5 _ _ _ Z9.out
    have z6 := cell_of_row w9 w.heap.size 6 _ _ _ Z9.out
    have z7 := cell_of_row w9 w.heap.size 7 _ _ _ Z9.out
    have y0 : w9.frozen? ⟨w.heap.size, 0, none⟩ = false := frozen_of_row w9 w.heap.size 0 _ _ Z9.out
    have y1 : w9.frozen? ⟨w.heap.size, 1, none⟩ = false := frozen_of_row w9 w.heap.size 1 _ _ Z9.out
    have y2 : w9.frozen? ⟨w.heap.size, 2, none⟩ = false := frozen_of_row w9 w.heap.size 2 _ _ Z9.out
    have y3 : w9.frozen? ⟨w.heap.size, 3, none⟩ = false := frozen_of_row w9 w.heap.size 3 _ _ Z9.out
    have y4 : w9.frozen? ⟨w.heap.size, 4, none⟩ = false := frozen_of_row w9 w.heap.size 4 _ _ Z9.out
    have y5 : w9.frozen? ⟨w.heap.size, 5, none⟩ = false := frozen_of_row w9 w.heap.size 5 _ _ Z9.out
    have y6 : w9.frozen? ⟨w.heap.size, 6, none⟩ = false := frozen_of_row w9 w.heap.size 6 _ _ Z9.out
    have y7 : w9.frozen? ⟨w.heap.size, 7, none⟩ = false := frozen_of_row w9 w.heap.size 7 _ _ Z9.out
    simp only [List.getElem?_toArray, List.getElem?_cons_zero, List.getElem?_cons_succ] at z0 z1 z2 z3 z4 z5 z6 z7
    unfold badV stV
    go_wp2
    refine bodyPost_ret (v := badV ((i + 1 : Nat) : Int) 31) (by simp [results, Tryz.results27, go_sem, badV, stV, z0, z1, z2, z3, z4, z5, z6, z7]) rfl ⟨(told8 HB9.out _ _ _ _ _ _ _ _), Or.inl ⟨_, _, HR.out, by decide, rfl⟩⟩
  | true =>
    have HN := hid hn
    have HN2 := hid hn
    clear hn
    go_wp2_with fail
    refine (rname_any _ true _ HS.out HN).mono ?_
    rintro e w2 ⟨rfl, hb2⟩
    have I0 := hid (begIn_start w w2 j i (s.extract (i + 1) j) (zero_kept w hb2) (below_new w zeroS hb2))
    clear hb2
    go_wp2
    go_loopw [7] (fun _ W => ∃ (k g : Nat) (acc : List L.Attr) (v : Value), k ≤ s.size ∧ s.size - k < g ∧ acc.length ≤ 20 ∧ Hid (L.attrsF g s k acc = L.attrsF (s.size + 1) s j []) ∧ Hid (L.Apart acc) ∧ Hid (BegIn w w2.heap.size k i (s.extract (i + 1) j) v (L.sortA acc) W)) (fun _ W => s.size - posOf w2.heap.size W)
    case atStart => exact ⟨j, s.size + 1, [], .slice none 0 0, j2, by omega, by simp, hid rfl, hid trivial, I0⟩
    case round =>
      clear I0
      obtain ⟨k, g, acc, v, hk, hg, hl20, HA, HAP, HI⟩ := hrel
      generalize w2.heap.size = B at *
      obtain ⟨k', HK⟩ : ∃ k', Hid (L.runP L.blankB s k = k') := ⟨_, hid rfl⟩
      have k1 : k ≤ k' := by rw [← HK.out]; exact L.run_ge _ _ _
      have k2 : k' ≤ s.size := by rw [← HK.out]; exact L.run_le hk
      obtain ⟨ao, cp, rfl⟩ := att_len HI.out.row
      have hlt := HI.out.lt
      have ne1 : w.heap.size ≠ B := by omega
      have ne2 : B ≠ w.heap.size := by omega
      have x0 := cell_of_row wr B 0 _ _ _ HI.out.x
      have fx0 : wr.frozen? ⟨B, 0, none⟩ = false := frozen_of_row wr B 0 _ _ HI.out.x
      have x1 := cell_of_row wr B 1 _ _ _ HI.out.x
      have fx1 : wr.frozen? ⟨B, 1, none⟩ = false := frozen_of_row wr B 1 _ _ HI.out.x
      have x2 := cell_of_row wr B 2 _ _ _ HI.out.x
      have fx2 : wr.frozen? ⟨B, 2, none⟩ = false := frozen_of_row wr B 2 _ _ HI.out.x
      have x3 := cell_of_row wr B 3 _ _ _ HI.out.x
      have fx3 : wr.frozen? ⟨B, 3, none⟩ = false := frozen_of_row wr B 3 _ _ HI.out.x
      have x4 := cell_of_row wr B 4 _ _ _ HI.out.x
      have fx4 : wr.frozen? ⟨B, 4, none⟩ = false := frozen_of_row wr B 4 _ _ HI.out.x
      have x5 := cell_of_row wr B 5 _ _ _ HI.out.x
      have fx5 : wr.frozen? ⟨B, 5, none⟩ = false := frozen_of_row wr B 5 _ _ HI.out.x
      have x6 := cell_of_row wr B 6 _ _ _ HI.out.x
      have fx6 : wr.frozen? ⟨B, 6, none⟩ = false := frozen_of_row wr B 6 _ _ HI.out.x
      have x7 := cell_of_row wr B 7 _ _ _ HI.out.x
      have fx7 : wr.frozen? ⟨B, 7, none⟩ = false := frozen_of_row wr B 7 _ _ HI.out.x
      simp only [List.getElem?_toArray, List.getElem?_cons_zero, List.getElem?_cons_succ] at x0 x1 x2 x3 x4 x5 x6 x7
      have z0 := cell_of_row wr w.heap.size 0 _ _ _ HI.out.z
      have z1 := cell_of_row wr w.heap.size 1 _ _ _ HI.out.z
      have z2 := cell_of_row wr w.heap.size 2 _ _ _ HI.out.z
      have z3 := cell_of_row wr w.heap.size 3 _ _ _ HI.out.z
      have z4 := cell_of_row wr w.heap.size 4 _ _ _ HI.out.z
      have z5 := cell_of_row wr w.heap.size 5 _ _ _ HI.out.z
      have z6 := cell_of_row wr w.heap.size 6 _ _ _ HI.out.z
      have z7 := cell_of_row wr w.heap.size 7 _ _ _ HI.out.z
      have y0 : wr.frozen? ⟨w.heap.size, 0, none⟩ = false := frozen_of_row wr w.heap.size 0 _ _ HI.out.z
      have y1 : wr.frozen? ⟨w.heap.size, 1, none⟩ = false := frozen_of_row wr w.heap.size 1 _ _ HI.out.z
      have y2 : wr.frozen? ⟨w.heap.size, 2, none⟩ = false := frozen_of_row wr w.heap.size 2 _ _ HI.out.z
      have y3 : wr.frozen? ⟨w.heap.size, 3, none⟩ = false := frozen_of_row wr w.heap.size 3 _ _ HI.out.z
      have y4 : wr.frozen? ⟨w.heap.size, 4, none⟩ = false := frozen_of_row wr w.heap.size 4 _ _ HI.out.z
      have y5 : wr.frozen? ⟨w.heap.size, 5, none⟩ = false := frozen_of_row wr w.heap.size 5 _ _ HI.out.z
      have y6 : wr.frozen? ⟨w.heap.size, 6, none⟩ = false := frozen_of_row wr w.heap.size 6 _ _ HI.out.z
      have y7 : wr.frozen? ⟨w.heap.size, 7, none⟩ = false := frozen_of_row wr w.heap.size 7 _ _ HI.out.z
      simp only [List.getElem?_toArray, List.getElem?_cons_zero, List.getElem?_cons_succ] at z0 z1 z2 z3 z4 z5 z6 z7
      go_wp2_with fail
      refine (rskip_any s k k' _ hk (by omega) HK).mono ?_
      rintro e w3 ⟨rfl, rfl⟩
      cases h1 : L.thereB s k' [62] with
      | true =>
        have HAT : Hid (L.attrsF g s k acc = .ok (acc, k')) := hid (by rw [L.attrs_stop (by omega) (by rw [HK.out]; unfold L.moreB; rw [h1]; simp), HK.out])
        have HR : Hid (L.begP s i = .ok (⟨1, i, s.extract (i + 1) j, ⟨#[]⟩, L.sortA acc⟩, k' + 1)) := by show _ = _; rw [L.beg_fin HJ.out HN2.out (HA.out.symm.trans HAT.out), if_pos h1]; rfl
        have H1 : Hid (L.thereB s k' (ByteArray.mk #[62]).data.toList = true) := hid h1
        have l1 := L.there_lt h1
        clear h1
        go_wp2_with fail
        refine (rthere_any s k' ⟨#[62]⟩ true _ (by omega) (by omega) (by decide) H1).mono ?_
        rintro e w4 ⟨rfl, rfl⟩
        have BB := hid ((HI.out.bel.setCell (p := ⟨B, 1, none⟩) (Nat.le_of_lt hlt) (.int .i64 1)).setCell (p := ⟨B, 0, none⟩) (Nat.le_of_lt hlt) (.int .i64 ((k' : Int) + 1)))
        have RR := hid (ownsRow_setCell_below (ownsRow_setCell_below HI.out.row (a := ⟨B, 1, none⟩) (Nat.lt_succ_self B) (.int .i64 1)) (a := ⟨B, 0, none⟩) (Nat.lt_succ_self B) (.int .i64 ((k' : Int) + 1)))
        go_wp2
        refine bodyPost_ret (v := stV ((k' + 1 : Nat) : Int) 1 i (s.extract (i + 1) j) ⟨#[]⟩ (.slice ao (L.sortA acc).length cp) 0 0) (by simp [results, Tryz.results27, go_sem, stV, z0, z1, z2, z3, z4, z5, z6, z7]) rfl ⟨told8 BB.out _ _ _ _ _ _ _ _, Or.inr ⟨_, _, .slice ao (L.sortA acc).length cp, HR.out, rfl, told8r RR.out (by omega) _ _ _ _ _ _ _ _⟩⟩
      | false =>
        have H1 : Hid (L.thereB s k' (ByteArray.mk #[62]).data.toList = false) := hid h1
        cases h2 : L.thereB s k' [47, 62] with
        | true =>
          have HAT : Hid (L.attrsF g s k acc = .ok (acc, k')) := hid (by rw [L.attrs_stop (by omega) (by rw [HK.out]; unfold L.moreB; rw [h2]; simp), HK.out])
          have HR : Hid (L.begP s i = .ok (⟨3, i, s.extract (i + 1) j, ⟨#[]⟩, L.sortA acc⟩, k' + 2)) := by show _ = _; rw [L.beg_fin HJ.out HN2.out (HA.out.symm.trans HAT.out), if_neg (by rw [h1]; simp), if_pos h2]; rfl
          have H2 : Hid (L.thereB s k' (ByteArray.mk #[47, 62]).data.toList = true) := hid h2
          have l1 := L.there2 h2
          clear h1 h2
          go_wp2_with fail
          refine (rthere_any s k' ⟨#[62]⟩ false _ (by omega) (by omega) (by decide) H1).mono ?_
          rintro e w4 ⟨rfl, rfl⟩
          go_wp2_with fail
          refine (rthere_any s k' ⟨#[47, 62]⟩ true _ (by omega) (by omega) (by decide) H2).mono ?_
          rintro e w4 ⟨rfl, rfl⟩
          have BB := hid ((HI.out.bel.setCell (p := ⟨B, 1, none⟩) (Nat.le_of_lt hlt) (.int .i64 3)).setCell (p := ⟨B, 0, none⟩) (Nat.le_of_lt hlt) (.int .i64 ((k' : Int) + 2)))
          have RR := hid (ownsRow_setCell_below (ownsRow_setCell_below HI.out.row (a := ⟨B, 1, none⟩) (Nat.lt_succ_self B) (.int .i64 3)) (a := ⟨B, 0, none⟩) (Nat.lt_succ_self B) (.int .i64 ((k' : Int) + 2)))
          go_wp2
          refine bodyPost_ret (v := stV ((k' + 2 : Nat) : Int) 3 i (s.extract (i + 1) j) ⟨#[]⟩ (.slice ao (L.sortA acc).length cp) 0 0) (by simp [results, Tryz.results27, go_sem, stV, z0, z1, z2, z3, z4, z5, z6, z7]) rfl ⟨told8 BB.out _ _ _ _ _ _ _ _, Or.inr ⟨_, _, .slice ao (L.sortA acc).length cp, HR.out, rfl, told8r RR.out (by omega) _ _ _ _ _ _ _ _⟩⟩
        | false =>
          have H2 : Hid (L.thereB s k' (ByteArray.mk #[47, 62]).data.toList = false) := hid h2
          go_wp2_with fail
          refine (rthere_any s k' ⟨#[62]⟩ false _ (by omega) (by omega) (by decide) H1).mono ?_
          rintro e w4 ⟨rfl, rfl⟩
          go_wp2_with fail
          refine (rthere_any s k' ⟨#[47, 62]⟩ false _ (by omega) (by omega) (by decide) H2).mono ?_
          rintro e w4 ⟨rfl, rfl⟩
          by_cases hstop : k' = k ∨ s.size ≤ k'
          · have hm : L.moreB s k k' = false := by
              unfold L.moreB
              rcases hstop with h | h
              · rw [show decide (k < k') = false by simp; omega]; simp
              · rw [show decide (k' < s.size) = false by simp; omega]; simp
            have HAT : Hid (L.attrsF g s k acc = .ok (acc, k')) := hid (by rw [L.attrs_stop (by omega) (by rw [HK.out]; exact hm), HK.out])
            have HR : Hid (L.begP s i = .error ((k' : Int), 30)) := by show _ = _; rw [L.beg_fin HJ.out HN2.out (HA.out.symm.trans HAT.out), if_neg (by rw [h1]; simp), if_neg (by rw [h2]; simp)]
            have Z := hid HI.out.z
            have HB := hid HI.out.bel
            clear h1 h2 hm
            by_cases hst : k' = k
            · subst hst
              clear z0 y0 z1 y1 z2 y2 z3 y3 z4 y4 z5 y5 z6 y6 z7 y7
              go_wp2_with fail
              refine (rfails_any _ _ _).mono ?_
              rintro e w9 ⟨rfl, hb9⟩
              have Z9 := hid ((hb9.block _ (lt_of_block Z.out)).trans Z.out)
              have HB9 := hid (HB.out.trans (hb9.mono HB.out.size))
              clear hb9
              have z0 := cell_of_row w9 w.heap.size 0 _ _ _ Z9.out
              have z1 := cell_of_row w9 w.heap.size 1 _ _ _ Z9.out
              have z2 := cell_of_row w9 w.heap.size 2 _ _ _ Z9.out
              have z3 := cell_of_row w9 w.heap.size 3 _ _ _ Z9.out
              have z4 := cell_of_row w9 w.heap.size 4 _ _ _ Z9.out
              have z5 := cell_of_row w9 w.heap.size 5 _ _ _ Z9.out
              have z6 := cell_of_row w9 w.heap.size 6 _ _ _ Z9.out
              have z7 := cell_of_row w9 w.heap.size 7 _ _ _ Z9.out
              have y0 : w9.frozen? ⟨w.heap.size, 0, none⟩ = false := frozen_of_row w9 w.heap.size 0 _ _ Z9.out
              have y1 : w9.frozen? ⟨w.heap.size, 1, none⟩ = false := frozen_of_row w9 w.heap.size 1 _ _ Z9.out
              have y2 : w9.frozen? ⟨w.heap.size, 2, none⟩ = false := frozen_of_row w9 w.heap.size 2 _ _ Z9.out
              have y3 : w9.frozen? ⟨w.heap.size, 3, none⟩ = false := frozen_of_row w9 w.heap.size 3 _ _ Z9.out
              have y4 : w9.frozen? ⟨w.heap.size, 4, none⟩ = false := frozen_of_row w9 w.heap.size 4 _ _ Z9.out
              have y5 : w9.frozen? ⟨w.heap.size, 5, none⟩ = false := frozen_of_row w9 w.heap.size 5 _ _ Z9.out
              have y6 : w9.frozen? ⟨w.heap.size, 6, none⟩ = false := frozen_of_row w9 w.heap.size 6 _ _ Z9.out
              have y7 : w9.frozen? ⟨w.heap.size, 7, none⟩ = false := frozen_of_row w9 w.heap.size 7 _ _ Z9.out
              simp only [List.getElem?_toArray, List.getElem?_cons_zero, List.getElem?_cons_succ] at z0 z1 z2 z3 z4 z5 z6 z7
              unfold badV stV
              go_wp2
              refine bodyPost_ret (v := badV (k' : Int) 30) (by simp [results, Tryz.results27, go_sem, badV, stV, z0, z1, z2, z3, z4, z5, z6, z7]) rfl ⟨(told8 HB9.out _ _ _ _ _ _ _ _), Or.inl ⟨_, _, HR.out, by decide, rfl⟩⟩
            · have b1 : ((k' : Int) == (k : Int)) = false := beq_eq_false_iff_ne.2 (by omega)
              have b2 : (s.size : Int) ≤ (k' : Int) := by omega
              clear hst hstop z0 y0 z1 y1 z2 y2 z3 y3 z4 y4 z5 y5 z6 y6 z7 y7
              go_wp2_with fail
              refine (rfails_any _ _ _).mono ?_
              rintro e w9 ⟨rfl, hb9⟩
              have Z9 := hid ((hb9.block _ (lt_of_block Z.out)).trans Z.out)
              have HB9 := hid (HB.out.trans (hb9.mono HB.out.size))
              clear hb9
              have z0 := cell_of_row w9 w.heap.size 0 _ _ _ Z9.out
              have z1 := cell_of_row w9 w.heap.size 1 _ _ _ Z9.out
              have z2 := cell_of_row w9 w.heap.size 2 _ _ _ Z9.out
              have z3 := cell_of_row w9 w.heap.size 3 _ _ _ Z9.out
              have z4 := cell_of_row w9 w.heap.size 4 _ _ _ Z9.out
              have z5 := cell_of_row w9 w.heap.size 5 _ _ _ Z9.out
              have z6 := cell_of_row w9 w.heap.size 6 _ _ _ Z9.out
              have z7 := cell_of_row w9 w.heap.size 7 _ _ _ Z9.out
              have y0 : w9.frozen? ⟨w.heap.size, 0, none⟩ = false := frozen_of_row w9 w.heap.size 0 _ _ Z9.out
              have y1 : w9.frozen? ⟨w.heap.size, 1, none⟩ = false := frozen_of_row w9 w.heap.size 1 _ _ Z9.out
              have y2 : w9.frozen? ⟨w.heap.size, 2, none⟩ = false := frozen_of_row w9 w.heap.size 2 _ _ Z9.out
              have y3 : w9.frozen? ⟨w.heap.size, 3, none⟩ = false := frozen_of_row w9 w.heap.size 3 _ _ Z9.out
              have y4 : w9.frozen? ⟨w.heap.size, 4, none⟩ = false := frozen_of_row w9 w.heap.size 4 _ _ Z9.out
              have y5 : w9.frozen? ⟨w.heap.size, 5, none⟩ = false := frozen_of_row w9 w.heap.size 5 _ _ Z9.out
              have y6 : w9.frozen? ⟨w.heap.size, 6, none⟩ = false := frozen_of_row w9 w.heap.size 6 _ _ Z9.out
              have y7 : w9.frozen? ⟨w.heap.size, 7, none⟩ = false := frozen_of_row w9 w.heap.size 7 _ _ Z9.out
              simp only [List.getElem?_toArray, List.getElem?_cons_zero, List.getElem?_cons_succ] at z0 z1 z2 z3 z4 z5 z6 z7
              unfold badV stV
              go_wp2
              refine bodyPost_ret (v := badV (k' : Int) 30) (by simp [results, Tryz.results27, go_sem, badV, stV, z0, z1, z2, z3, z4, z5, z6, z7]) rfl ⟨(told8 HB9.out _ _ _ _ _ _ _ _), Or.inl ⟨_, _, HR.out, by decide, rfl⟩⟩
          · have hk'k : k < k' := by omega
            have hks : k' < s.size := by omega
            have HM : Hid (L.moreB s k (L.runP L.blankB s k) = true) := hid (by rw [HK.out]; unfold L.moreB; rw [h1, h2]; simp; omega)
            have b1 : ((k' : Int) == (k : Int)) = false := beq_eq_false_iff_ne.2 (by omega)
            have b2 : ¬ (s.size : Int) ≤ (k' : Int) := by omega
            have HI2 := hid (HI.out.set0 k')
            have HP : Hid (L.attrP s k' (L.sortA acc) = L.attrP s k' acc) := hid (L.attr_perm s k' (L.sort_rise acc HAP.out).2)
            have hs20 : (L.sortA acc).length ≤ 20 := by rw [(L.sort_rise acc HAP.out).2.length_eq]; exact hl20
            clear h1 h2 hstop
            go_wp2_with fail
            refine Calls.mono (rattr_st s k' i (s.extract (i + 1) j) (.slice ao (L.sortA acc).length cp) (L.sortA acc) _ _ k2 hz hs20 HI2.out.row) ?_
            rw [HP.out]
            rintro e w5 ⟨hb5, ⟨q, e0, h3, h4, rfl⟩ | ⟨a, n, v5, h3, rfl, h5⟩⟩
            · have HR : Hid (L.begP s i = .error (q, e0)) := by show _ = _; exact L.beg_err HJ.out HN2.out (HA.out.symm.trans (L.attrs_bad (by omega) HM.out (by rw [HK.out]; exact h3)))
              have HI5 := hid (HI2.out.below hb5)
              have b9 : (e0 != 0) = true := bne_iff_ne.2 h4
              have HE := hid h4
              clear hb5 h3 h4 x0 fx0 z0 y0 x1 fx1 z1 y1 x2 fx2 z2 y2 x3 fx3 z3 y3 x4 fx4 z4 y4 x5 fx5 z5 y5 x6 fx6 z6 y6 x7 fx7 z7 y7
              have x0 := cell_of_row w5 B 0 _ _ _ HI5.out.x
              have fx0 : w5.frozen? ⟨B, 0, none⟩ = false := frozen_of_row w5 B 0 _ _ HI5.out.x
              have x1 := cell_of_row w5 B 1 _ _ _ HI5.out.x
              have fx1 : w5.frozen? ⟨B, 1, none⟩ = false := frozen_of_row w5 B 1 _ _ HI5.out.x
              have x2 := cell_of_row w5 B 2 _ _ _ HI5.out.x
              have fx2 : w5.frozen? ⟨B, 2, none⟩ = false := frozen_of_row w5 B 2 _ _ HI5.out.x
              have x3 := cell_of_row w5 B 3 _ _ _ HI5.out.x
              have fx3 : w5.frozen? ⟨B, 3, none⟩ = false := frozen_of_row w5 B 3 _ _ HI5.out.x
              have x4 := cell_of_row w5 B 4 _ _ _ HI5.out.x
              have fx4 : w5.frozen? ⟨B, 4, none⟩ = false := frozen_of_row w5 B 4 _ _ HI5.out.x
              have x5 := cell_of_row w5 B 5 _ _ _ HI5.out.x
              have fx5 : w5.frozen? ⟨B, 5, none⟩ = false := frozen_of_row w5 B 5 _ _ HI5.out.x
              have x6 := cell_of_row w5 B 6 _ _ _ HI5.out.x
              have fx6 : w5.frozen? ⟨B, 6, none⟩ = false := frozen_of_row w5 B 6 _ _ HI5.out.x
              have x7 := cell_of_row w5 B 7 _ _ _ HI5.out.x
              have fx7 : w5.frozen? ⟨B, 7, none⟩ = false := frozen_of_row w5 B 7 _ _ HI5.out.x
              simp only [List.getElem?_toArray, List.getElem?_cons_zero, List.getElem?_cons_succ] at x0 x1 x2 x3 x4 x5 x6 x7
              have z0 := cell_of_row w5 w.heap.size 0 _ _ _ HI5.out.z
              have z1 := cell_of_row w5 w.heap.size 1 _ _ _ HI5.out.z
              have z2 := cell_of_row w5 w.heap.size 2 _ _ _ HI5.out.z
              have z3 := cell_of_row w5 w.heap.size 3 _ _ _ HI5.out.z
              have z4 := cell_of_row w5 w.heap.size 4 _ _ _ HI5.out.z
              have z5 := cell_of_row w5 w.heap.size 5 _ _ _ HI5.out.z
              have z6 := cell_of_row w5 w.heap.size 6 _ _ _ HI5.out.z
              have z7 := cell_of_row w5 w.heap.size 7 _ _ _ HI5.out.z
              have y0 : w5.frozen? ⟨w.heap.size, 0, none⟩ = false := frozen_of_row w5 w.heap.size 0 _ _ HI5.out.z
              have y1 : w5.frozen? ⟨w.heap.size, 1, none⟩ = false := frozen_of_row w5 w.heap.size 1 _ _ HI5.out.z
              have y2 : w5.frozen? ⟨w.heap.size, 2, none⟩ = false := frozen_of_row w5 w.heap.size 2 _ _ HI5.out.z
              have y3 : w5.frozen? ⟨w.heap.size, 3, none⟩ = false := frozen_of_row w5 w.heap.size 3 _ _ HI5.out.z
              have y4 : w5.frozen? ⟨w.heap.size, 4, none⟩ = false := frozen_of_row w5 w.heap.size 4 _ _ HI5.out.z
              have y5 : w5.frozen? ⟨w.heap.size, 5, none⟩ = false := frozen_of_row w5 w.heap.size 5 _ _ HI5.out.z
              have y6 : w5.frozen? ⟨w.heap.size, 6, none⟩ = false := frozen_of_row w5 w.heap.size 6 _ _ HI5.out.z
              have y7 : w5.frozen? ⟨w.heap.size, 7, none⟩ = false := frozen_of_row w5 w.heap.size 7 _ _ HI5.out.z
              simp only [List.getElem?_toArray, List.getElem?_cons_zero, List.getElem?_cons_succ] at z0 z1 z2 z3 z4 z5 z6 z7
              have hle := Nat.le_of_lt hlt
              have BB := hid ((((((((HI5.out.bel.setCell (p := ⟨B, 0, none⟩) hle (.int .i64 0)).setCell (p := ⟨B, 1, none⟩) hle (.int .i64 0)).setCell (p := ⟨B, 2, none⟩) hle (.int .i64 0)).setCell (p := ⟨B, 3, none⟩) hle (.string ⟨#[]⟩)).setCell (p := ⟨B, 4, none⟩) hle (.string ⟨#[]⟩)).setCell (p := ⟨B, 5, none⟩) hle (.slice none 0 0)).setCell (p := ⟨B, 6, none⟩) hle (.int .i64 q)).setCell (p := ⟨B, 7, none⟩) hle (.int .i64 e0))
              unfold badV stV
              go_wp2
              refine bodyPost_ret (v := badV q e0) (by simp [results, Tryz.results27, go_sem, badV, stV, z0, z1, z2, z3, z4, z5, z6, z7]) rfl ⟨told8 BB.out _ _ _ _ _ _ _ _, Or.inl ⟨_, _, HR.out, HE.out, rfl⟩⟩
            · have hg5 := L.attr_go h3
              have hl5 := (L.attr_ok h3).2.1
              have HA2 : Hid (L.attrsF (g - 1) s n (acc ++ [a]) = L.attrsF (s.size + 1) s j []) := hid (by rw [← HA.out, L.attrs_next (by omega) HM.out (by rw [HK.out]; exact h3)])
              have HAP2 : Hid (L.Apart (acc ++ [a])) := hid (L.apart_snoc HAP.out (L.attr_apart h3))
              obtain ⟨ao5, cp5, rfl⟩ := att_len h5
              have HI5 := hid (HI2.out.below hb5)
              have bs5 := lt_of_block HI2.out.x
              have HX := hid (HI5.out.put n (.slice ao5 (L.insA a (L.sortA acc)).length cp5) (L.insA a (L.sortA acc)) h5 bs5)
              have P1 := hid HI.out.pos
              have P2 := hid HX.out.pos
              have HX2 : Hid (BegIn w B n i (s.extract (i + 1) j) (.slice ao5 (L.insA a (L.sortA acc)).length cp5) (L.sortA (acc ++ [a])) ((((((((w5.setCell ⟨B, 0, none⟩ (.int .i64 (n : Int))).setCell ⟨B, 1, none⟩ (.int .i64 0)).setCell ⟨B, 2, none⟩ (.int .i64 (i : Int))).setCell ⟨B, 3, none⟩ (.string (s.extract (i + 1) j))).setCell ⟨B, 4, none⟩ (.string ⟨#[]⟩)).setCell ⟨B, 5, none⟩ (.slice ao5 (L.insA a (L.sortA acc)).length cp5)).setCell ⟨B, 6, none⟩ (.int .i64 0)).setCell ⟨B, 7, none⟩ (.int .i64 0))) := hid (by rw [L.sort_snoc]; exact HX.out)
              clear hb5 h3 h5 HX bs5 x0 fx0 z0 y0 x1 fx1 z1 y1 x2 fx2 z2 y2 x3 fx3 z3 y3 x4 fx4 z4 y4 x5 fx5 z5 y5 x6 fx6 z6 y6 x7 fx7 z7 y7
              have x0 := cell_of_row w5 B 0 _ _ _ HI5.out.x
              have fx0 : w5.frozen? ⟨B, 0, none⟩ = false := frozen_of_row w5 B 0 _ _ HI5.out.x
              have x1 := cell_of_row w5 B 1 _ _ _ HI5.out.x
              have fx1 : w5.frozen? ⟨B, 1, none⟩ = false := frozen_of_row w5 B 1 _ _ HI5.out.x
              have x2 := cell_of_row w5 B 2 _ _ _ HI5.out.x
              have fx2 : w5.frozen? ⟨B, 2, none⟩ = false := frozen_of_row w5 B 2 _ _ HI5.out.x
              have x3 := cell_of_row w5 B 3 _ _ _ HI5.out.x
              have fx3 : w5.frozen? ⟨B, 3, none⟩ = false := frozen_of_row w5 B 3 _ _ HI5.out.x
              have x4 := cell_of_row w5 B 4 _ _ _ HI5.out.x
              have fx4 : w5.frozen? ⟨B, 4, none⟩ = false := frozen_of_row w5 B 4 _ _ HI5.out.x
              have x5 := cell_of_row w5 B 5 _ _ _ HI5.out.x
              have fx5 : w5.frozen? ⟨B, 5, none⟩ = false := frozen_of_row w5 B 5 _ _ HI5.out.x
              have x6 := cell_of_row w5 B 6 _ _ _ HI5.out.x
              have fx6 : w5.frozen? ⟨B, 6, none⟩ = false := frozen_of_row w5 B 6 _ _ HI5.out.x
              have x7 := cell_of_row w5 B 7 _ _ _ HI5.out.x
              have fx7 : w5.frozen? ⟨B, 7, none⟩ = false := frozen_of_row w5 B 7 _ _ HI5.out.x
              simp only [List.getElem?_toArray, List.getElem?_cons_zero, List.getElem?_cons_succ] at x0 x1 x2 x3 x4 x5 x6 x7
              unfold stV
              go_wp2
              go_roundw
              case rel => exact ⟨n, g - 1, acc ++ [a], _, by omega, by omega, by simp; omega, HA2, HAP2, HX2⟩
              case measure => rw [P1.out, P2.out]; omega
end Go.Proofs.YtafjffnijonglaaGreatDoor
namespace Go.Proofs.YtafjffnijonglaaGreatDoor
open Go.RowKit Go.Shelf
def zeroO : Obj := .cells #[.int .i64 0, .int .i64 0, .string ⟨#[]⟩, .string ⟨#[]⟩, .slice none 0 0] 45 (0, 0)
section
variable {w w' : World}
theorem told5 (h : Below w.heap.size w w') (a0 a1 a2 a3 a4 : Value) : Below w.heap.size w (((((w'.setCell ⟨w.heap.size, 0, none⟩ a0).setCell ⟨w.heap.size, 1, none⟩ a1).setCell ⟨w.heap.size, 2, none⟩ a2).setCell ⟨w.heap.size, 3, none⟩ a3).setCell ⟨w.heap.size, 4, none⟩ a4) :=
  ((((h.setCell (p := ⟨w.heap.size, 0, none⟩) (Nat.le_refl _) a0).setCell (p := ⟨w.heap.size, 1, none⟩) (Nat.le_refl _) a1).setCell (p := ⟨w.heap.size, 2, none⟩) (Nat.le_refl _) a2).setCell (p := ⟨w.heap.size, 3, none⟩) (Nat.le_refl _) a3).setCell (p := ⟨w.heap.size, 4, none⟩) (Nat.le_refl _) a4
theorem put8x {W : World} {B : Nat} (h : W.heap[B]? = some zeroS) (a0 a1 a2 a3 a4 a5 a6 a7 : Value) : ((((((((W.setCell ⟨B, 0, none⟩ a0).setCell ⟨B, 1, none⟩ a1).setCell ⟨B, 2, none⟩ a2).setCell ⟨B, 3, none⟩ a3).setCell ⟨B, 4, none⟩ a4).setCell ⟨B, 5, none⟩ a5).setCell ⟨B, 6, none⟩ a6).setCell ⟨B, 7, none⟩ a7).heap[B]? = some (.cells #[a0, a1, a2, a3, a4, a5, a6, a7] 63 (0, 0)) := by
  have s0 : (W.setCell ⟨B, 0, none⟩ a0).heap[B]? = some (.cells #[a0, .int .i64 0, .int .i64 0, .string ⟨#[]⟩, .string ⟨#[]⟩, .slice none 0 0, .int .i64 0, .int .i64 0] 63 (0, 0)) := (heap_setCell_same _ B 0 _ _ _ h).trans rfl
  have s1 : ((W.setCell ⟨B, 0, none⟩ a0).setCell ⟨B, 1, none⟩ a1).heap[B]? = some (.cells #[a0, a1, .int .i64 0, .string ⟨#[]⟩, .string ⟨#[]⟩, .slice none 0 0, .int .i64 0, .int .i64 0] 63 (0, 0)) := (heap_setCell_same _ B 1 _ _ _ s0).trans rfl
  have s2 : (((W.setCell ⟨B, 0, none⟩ a0).setCell ⟨B, 1, none⟩ a1).setCell ⟨B, 2, none⟩ a2).heap[B]? = some (.cells #[a0, a1, a2, .string ⟨#[]⟩, .string ⟨#[]⟩, .slice none 0 0, .int .i64 0, .int .i64 0] 63 (0, 0)) := (heap_setCell_same _ B 2 _ _ _ s1).trans rfl
  have s3 : ((((W.setCell ⟨B, 0, none⟩ a0).setCell ⟨B, 1, none⟩ a1).setCell ⟨B, 2, none⟩ a2).setCell ⟨B, 3, none⟩ a3).heap[B]? = some (.cells #[a0, a1, a2, a3, .string ⟨#[]⟩, .slice none 0 0, .int .i64 0, .int .i64 0] 63 (0, 0)) := (heap_setCell_same _ B 3 _ _ _ s2).trans rfl
  have s4 : (((((W.setCell ⟨B, 0, none⟩ a0).setCell ⟨B, 1, none⟩ a1).setCell ⟨B, 2, none⟩ a2).setCell ⟨B, 3, none⟩ a3).setCell ⟨B, 4, none⟩ a4).heap[B]? = some (.cells #[a0, a1, a2, a3, a4, .slice none 0 0, .int .i64 0, .int .i64 0] 63 (0, 0)) := (heap_setCell_same _ B 4 _ _ _ s3).trans rfl
  have s5 : ((((((W.setCell ⟨B, 0, none⟩ a0).setCell ⟨B, 1, none⟩ a1).setCell ⟨B, 2, none⟩ a2).setCell ⟨B, 3, none⟩ a3).setCell ⟨B, 4, none⟩ a4).setCell ⟨B, 5, none⟩ a5).heap[B]? = some (.cells #[a0, a1, a2, a3, a4, a5, .int .i64 0, .int .i64 0] 63 (0, 0)) := (heap_setCell_same _ B 5 _ _ _ s4).trans rfl
  have s6 : (((((((W.setCell ⟨B, 0, none⟩ a0).setCell ⟨B, 1, none⟩ a1).setCell ⟨B, 2, none⟩ a2).setCell ⟨B, 3, none⟩ a3).setCell ⟨B, 4, none⟩ a4).setCell ⟨B, 5, none⟩ a5).setCell ⟨B, 6, none⟩ a6).heap[B]? = some (.cells #[a0, a1, a2, a3, a4, a5, a6, .int .i64 0] 63 (0, 0)) := (heap_setCell_same _ B 6 _ _ _ s5).trans rfl
  have s7 : ((((((((W.setCell ⟨B, 0, none⟩ a0).setCell ⟨B, 1, none⟩ a1).setCell ⟨B, 2, none⟩ a2).setCell ⟨B, 3, none⟩ a3).setCell ⟨B, 4, none⟩ a4).setCell ⟨B, 5, none⟩ a5).setCell ⟨B, 6, none⟩ a6).setCell ⟨B, 7, none⟩ a7).heap[B]? = some (.cells #[a0, a1, a2, a3, a4, a5, a6, a7] 63 (0, 0)) := (heap_setCell_same _ B 7 _ _ _ s6).trans rfl
  exact s7
theorem put8z {W : World} {B C : Nat} (hne : C ≠ B) (a0 a1 a2 a3 a4 a5 a6 a7 : Value) : ((((((((W.setCell ⟨B, 0, none⟩ a0).setCell ⟨B, 1, none⟩ a1).setCell ⟨B, 2, none⟩ a2).setCell ⟨B, 3, none⟩ a3).setCell ⟨B, 4, none⟩ a4).setCell ⟨B, 5, none⟩ a5).setCell ⟨B, 6, none⟩ a6).setCell ⟨B, 7, none⟩ a7).heap[C]? = W.heap[C]? := by
  rw [heap_setCell_other _ ⟨B, 7, none⟩ C _ hne, heap_setCell_other _ ⟨B, 6, none⟩ C _ hne, heap_setCell_other _ ⟨B, 5, none⟩ C _ hne, heap_setCell_other _ ⟨B, 4, none⟩ C _ hne, heap_setCell_other _ ⟨B, 3, none⟩ C _ hne, heap_setCell_other _ ⟨B, 2, none⟩ C _ hne, heap_setCell_other _ ⟨B, 1, none⟩ C _ hne, heap_setCell_other _ ⟨B, 0, none⟩ C _ hne]
theorem told5r {v : Value} {n base : Nat} {xs : List Value} (h : w'.ownsRow base 67 2 v n xs) (hb : w.heap.size < base) (a0 a1 a2 a3 a4 : Value) : World.ownsRow (((((w'.setCell ⟨w.heap.size, 0, none⟩ a0).setCell ⟨w.heap.size, 1, none⟩ a1).setCell ⟨w.heap.size, 2, none⟩ a2).setCell ⟨w.heap.size, 3, none⟩ a3).setCell ⟨w.heap.size, 4, none⟩ a4) w.heap.size 67 2 v n xs :=
  row_base (ownsRow_setCell_below (ownsRow_setCell_below (ownsRow_setCell_below (ownsRow_setCell_below (ownsRow_setCell_below h (a := ⟨w.heap.size, 0, none⟩) hb a0) (a := ⟨w.heap.size, 1, none⟩) hb a1) (a := ⟨w.heap.size, 2, none⟩) hb a2) (a := ⟨w.heap.size, 3, none⟩) hb a3) (a := ⟨w.heap.size, 4, none⟩) hb a4) (Nat.le_of_lt hb)
end
set_option maxRecDepth 100000 in
set_option maxHeartbeats 16000000 in
theorem rone_out (s : ByteArray) (z : Int) (w : World) (h : z < 0 ∨ (s.size : Int) ≤ z) :
    Calls Tryz.prog 14 #[.string s, .int .i64 z] w (OnePost w (L.oneP s z)) := by
  have HR : Hid (L.oneP s z = .error (z, 30)) := by show _ = _; unfold L.oneP; rw [if_pos h]
  by_cases h0 : z < 0
  · go_enter Tryz.func14, Tryz.ntmps14
    go_wp2
    refine bodyPost_ret (v := .tuple #[zeroT, .int .i64 0, .int .i64 z, .int .i64 30]) (by simp [results, Tryz.results14, go_sem, zeroT]) rfl ⟨(Below.refl _ _).alloc (Nat.le_refl _) _, Or.inl ⟨z, 30, HR.out, by decide, rfl⟩⟩
  · have h1 : (s.size : Int) ≤ z := by omega
    clear h
    go_enter Tryz.func14, Tryz.ntmps14
    go_wp2
    refine bodyPost_ret (v := .tuple #[zeroT, .int .i64 0, .int .i64 z, .int .i64 30]) (by simp [results, Tryz.results14, go_sem, zeroT]) rfl ⟨(Below.refl _ _).alloc (Nat.le_refl _) _, Or.inl ⟨z, 30, HR.out, by decide, rfl⟩⟩
set_option maxRecDepth 100000 in
set_option maxHeartbeats 16000000 in
theorem rone_in (s : ByteArray) (i : Nat) (w : World) (hi : i < s.size) (hz : s.size ≤ 20000) :
    Calls Tryz.prog 14 #[.string s, .int .i64 (i : Int)] w (OnePost w (L.oneP s (i : Int))) := by
  have h0 : ¬ (i : Int) < 0 := by omega
  have h1' : ¬ (s.size : Int) ≤ (i : Int) := by omega
  have hii : (i : Int) < (s.size : Int) := by omega
  have HZ0 : Hid (((w.alloc zeroO).alloc zeroS).heap[w.heap.size]? = some zeroO) := hid (by rw [Below.heap_alloc _ _ _ (by simp)]; exact heap_alloc_new w _)
  have HX0 : Hid (((w.alloc zeroO).alloc zeroS).heap[w.heap.size + 1]? = some zeroS) := hid (by have := heap_alloc_new (w.alloc zeroO) zeroS; simpa using this)
  have HB0 : Hid (Below w.heap.size w ((w.alloc zeroO).alloc zeroS)) := hid (((Below.refl _ _).alloc (Nat.le_refl _) _).alloc (by simp) _)
  cases h1 : L.thereB s i [60, 47] with
  | true =>
    have HE0 : Hid (L.oneP s (i : Int) = L.endP s i) := hid (by rw [oneP_nat hi]; unfold L.oneN; rw [if_pos h1])
    have H1 : Hid (L.thereB s i (ByteArray.mk #[60, 47]).data.toList = true) := hid h1
    have i2 := L.there2 h1
    clear h1
    go_enter Tryz.func14, Tryz.ntmps14
    go_wp2_with fail
    refine (rthere_any s i ⟨#[60, 47]⟩ true _ (by omega) (by omega) (by decide) H1).mono ?_
    rintro e w2 ⟨rfl, rfl⟩
    go_wp2_with fail
    refine Calls.mono (rend_st s i _ i2 hz) ?_
    rintro e w3 ⟨hb3, ⟨q, e0, h3, h4, rfl⟩ | ⟨⟨kd, ps, nm, tx, ats⟩, n, v, h3, rfl, h5⟩⟩
    · have HZ := hid ((hb3.block _ (lt_of_block HZ0.out)).trans HZ0.out)
      have HX := hid ((hb3.block _ (lt_of_block HX0.out)).trans HX0.out)
      have HB3 := hid (HB0.out.trans (hb3.mono HB0.out.size))
      have HR : Hid (L.oneP s (i : Int) = .error (q, e0)) := hid (by rw [HE0.out]; exact h3)
      have b9 : (e0 != 0) = true := bne_iff_ne.2 h4
      have HE := hid h4
      clear hb3 h3 h4
      obtain ⟨W, HW⟩ : ∃ W, Hid (W = ((((((((w3.setCell ⟨w.heap.size + 1, 0, none⟩ (.int .i64 0)).setCell ⟨w.heap.size + 1, 1, none⟩ (.int .i64 0)).setCell ⟨w.heap.size + 1, 2, none⟩ (.int .i64 0)).setCell ⟨w.heap.size + 1, 3, none⟩ (.string ⟨#[]⟩)).setCell ⟨w.heap.size + 1, 4, none⟩ (.string ⟨#[]⟩)).setCell ⟨w.heap.size + 1, 5, none⟩ (.slice none 0 0)).setCell ⟨w.heap.size + 1, 6, none⟩ (.int .i64 q)).setCell ⟨w.heap.size + 1, 7, none⟩ (.int .i64 e0))) := ⟨_, hid rfl⟩
      have HXW : Hid (W.heap[w.heap.size + 1]? = some (.cells #[.int .i64 0, .int .i64 0, .int .i64 0, .string ⟨#[]⟩, .string ⟨#[]⟩, .slice none 0 0, .int .i64 q, .int .i64 e0] 63 (0, 0))) := hid (by rw [HW.out]; exact put8x HX.out _ _ _ _ _ _ _ _)
      have HZW : Hid (W.heap[w.heap.size]? = some zeroO) := hid (by rw [HW.out, put8z (by omega)]; exact HZ.out)
      have BB : Hid (Below w.heap.size w W) := hid (by rw [HW.out]; exact (((((((HB3.out.setCell (p := ⟨w.heap.size + 1, 0, none⟩) (Nat.le_succ _) (.int .i64 0)).setCell (p := ⟨w.heap.size + 1, 1, none⟩) (Nat.le_succ _) (.int .i64 0)).setCell (p := ⟨w.heap.size + 1, 2, none⟩) (Nat.le_succ _) (.int .i64 0)).setCell (p := ⟨w.heap.size + 1, 3, none⟩) (Nat.le_succ _) (.string ⟨#[]⟩)).setCell (p := ⟨w.heap.size + 1, 4, none⟩) (Nat.le_succ _) (.string ⟨#[]⟩)).setCell (p := ⟨w.heap.size + 1, 5, none⟩) (Nat.le_succ _) (.slice none 0 0)).setCell (p := ⟨w.heap.size + 1, 6, none⟩) (Nat.le_succ _) (.int .i64 q)).setCell (p := ⟨w.heap.size + 1, 7, none⟩) (Nat.le_succ _) (.int .i64 e0))
      have x0 := cell_of_row w3 (w.heap.size + 1) 0 _ _ _ HX.out
      have fx0 : w3.frozen? ⟨w.heap.size + 1, 0, none⟩ = false := frozen_of_row w3 (w.heap.size + 1) 0 _ _ HX.out
      have x1 := cell_of_row w3 (w.heap.size + 1) 1 _ _ _ HX.out
      have fx1 : w3.frozen? ⟨w.heap.size + 1, 1, none⟩ = false := frozen_of_row w3 (w.heap.size + 1) 1 _ _ HX.out
      have x2 := cell_of_row w3 (w.heap.size + 1) 2 _ _ _ HX.out
      have fx2 : w3.frozen? ⟨w.heap.size + 1, 2, none⟩ = false := frozen_of_row w3 (w.heap.size + 1) 2 _ _ HX.out
      have x3 := cell_of_row w3 (w.heap.size + 1) 3 _ _ _ HX.out
      have fx3 : w3.frozen? ⟨w.heap.size + 1, 3, none⟩ = false := frozen_of_row w3 (w.heap.size + 1) 3 _ _ HX.out
      have x4 := cell_of_row w3 (w.heap.size + 1) 4 _ _ _ HX.out
      have fx4 : w3.frozen? ⟨w.heap.size + 1, 4, none⟩ = false := frozen_of_row w3 (w.heap.size + 1) 4 _ _ HX.out
      have x5 := cell_of_row w3 (w.heap.size + 1) 5 _ _ _ HX.out
      have fx5 : w3.frozen? ⟨w.heap.size + 1, 5, none⟩ = false := frozen_of_row w3 (w.heap.size + 1) 5 _ _ HX.out
      have x6 := cell_of_row w3 (w.heap.size + 1) 6 _ _ _ HX.out
      have fx6 : w3.frozen? ⟨w.heap.size + 1, 6, none⟩ = false := frozen_of_row w3 (w.heap.size + 1) 6 _ _ HX.out
      have x7 := cell_of_row w3 (w.heap.size + 1) 7 _ _ _ HX.out
      have fx7 : w3.frozen? ⟨w.heap.size + 1, 7, none⟩ = false := frozen_of_row w3 (w.heap.size + 1) 7 _ _ HX.out
      simp only [List.getElem?_toArray, List.getElem?_cons_zero, List.getElem?_cons_succ] at x0 x1 x2 x3 x4 x5 x6 x7
      unfold badV stV
      go_wp2
      rw [← HW.out]
      clear x0 fx0 x1 fx1 x2 fx2 x3 fx3 x4 fx4 x5 fx5 x6 fx6 x7 fx7
      have x0 := cell_of_row W (w.heap.size + 1) 0 _ _ _ HXW.out
      have x1 := cell_of_row W (w.heap.size + 1) 1 _ _ _ HXW.out
      have x2 := cell_of_row W (w.heap.size + 1) 2 _ _ _ HXW.out
      have x3 := cell_of_row W (w.heap.size + 1) 3 _ _ _ HXW.out
      have x4 := cell_of_row W (w.heap.size + 1) 4 _ _ _ HXW.out
      have x5 := cell_of_row W (w.heap.size + 1) 5 _ _ _ HXW.out
      have x6 := cell_of_row W (w.heap.size + 1) 6 _ _ _ HXW.out
      have x7 := cell_of_row W (w.heap.size + 1) 7 _ _ _ HXW.out
      have z0 := cell_of_row W w.heap.size 0 _ _ _ HZW.out
      have y0 : W.frozen? ⟨w.heap.size, 0, none⟩ = false := frozen_of_row W w.heap.size 0 _ _ HZW.out
      have z1 := cell_of_row W w.heap.size 1 _ _ _ HZW.out
      have y1 : W.frozen? ⟨w.heap.size, 1, none⟩ = false := frozen_of_row W w.heap.size 1 _ _ HZW.out
      have z2 := cell_of_row W w.heap.size 2 _ _ _ HZW.out
      have y2 : W.frozen? ⟨w.heap.size, 2, none⟩ = false := frozen_of_row W w.heap.size 2 _ _ HZW.out
      have z3 := cell_of_row W w.heap.size 3 _ _ _ HZW.out
      have y3 : W.frozen? ⟨w.heap.size, 3, none⟩ = false := frozen_of_row W w.heap.size 3 _ _ HZW.out
      have z4 := cell_of_row W w.heap.size 4 _ _ _ HZW.out
      have y4 : W.frozen? ⟨w.heap.size, 4, none⟩ = false := frozen_of_row W w.heap.size 4 _ _ HZW.out
      simp only [List.getElem?_toArray, List.getElem?_cons_zero, List.getElem?_cons_succ] at x0 x1 x2 x3 x4 x5 x6 x7 z0 z1 z2 z3 z4
      clear HW
      go_region
      all_goals
        go_wp2
        refine bodyPost_ret (v := .tuple #[zeroT, .int .i64 0, .int .i64 q, .int .i64 e0]) (by simp [results, Tryz.results14, go_sem, zeroT, z0, z1, z2, z3, z4]) rfl ⟨(told5 BB.out _ _ _ _ _).drew, Or.inl ⟨_, _, HR.out, HE.out, rfl⟩⟩
    · obtain ⟨ao, cp, rfl⟩ := att_len h5
      dsimp only at *
      have HZ := hid ((hb3.block _ (lt_of_block HZ0.out)).trans HZ0.out)
      have HX := hid ((hb3.block _ (lt_of_block HX0.out)).trans HX0.out)
      have HB3 := hid (HB0.out.trans (hb3.mono HB0.out.size))
      have HR : Hid (L.oneP s (i : Int) = .ok (⟨kd, ps, nm, tx, ats⟩, n)) := hid (by rw [HE0.out]; exact h3)
      have hq : ∀ q, (⟨w.heap.size + 1, q, none⟩ : Addr).block < ((w.alloc zeroO).alloc zeroS).heap.size := fun q => by show w.heap.size + 1 < _; simp
      obtain ⟨W, HW⟩ : ∃ W, Hid (W = ((((((((w3.setCell ⟨w.heap.size + 1, 0, none⟩ (.int .i64 (n : Int))).setCell ⟨w.heap.size + 1, 1, none⟩ (.int .i64 kd)).setCell ⟨w.heap.size + 1, 2, none⟩ (.int .i64 (ps : Int))).setCell ⟨w.heap.size + 1, 3, none⟩ (.string nm)).setCell ⟨w.heap.size + 1, 4, none⟩ (.string tx)).setCell ⟨w.heap.size + 1, 5, none⟩ (.slice ao ats.length cp)).setCell ⟨w.heap.size + 1, 6, none⟩ (.int .i64 0)).setCell ⟨w.heap.size + 1, 7, none⟩ (.int .i64 0))) := ⟨_, hid rfl⟩
      have HXW : Hid (W.heap[w.heap.size + 1]? = some (.cells #[.int .i64 (n : Int), .int .i64 kd, .int .i64 (ps : Int), .string nm, .string tx, .slice ao ats.length cp, .int .i64 0, .int .i64 0] 63 (0, 0))) := hid (by rw [HW.out]; exact put8x HX.out _ _ _ _ _ _ _ _)
      have HZW : Hid (W.heap[w.heap.size]? = some zeroO) := hid (by rw [HW.out, put8z (by omega)]; exact HZ.out)
      have RR : Hid (W.ownsRow ((w.alloc zeroO).alloc zeroS).heap.size 67 2 (.slice ao ats.length cp) ats.length (encL ats)) := hid (by rw [HW.out]; exact ownsRow_setCell_below (ownsRow_setCell_below (ownsRow_setCell_below (ownsRow_setCell_below (ownsRow_setCell_below (ownsRow_setCell_below (ownsRow_setCell_below (ownsRow_setCell_below h5 (hq 0) (.int .i64 (n : Int))) (hq 1) (.int .i64 kd)) (hq 2) (.int .i64 (ps : Int))) (hq 3) (.string nm)) (hq 4) (.string tx)) (hq 5) (.slice ao ats.length cp)) (hq 6) (.int .i64 0)) (hq 7) (.int .i64 0))
      have BB : Hid (Below w.heap.size w W) := hid (by rw [HW.out]; exact (((((((HB3.out.setCell (p := ⟨w.heap.size + 1, 0, none⟩) (Nat.le_succ _) (.int .i64 (n : Int))).setCell (p := ⟨w.heap.size + 1, 1, none⟩) (Nat.le_succ _) (.int .i64 kd)).setCell (p := ⟨w.heap.size + 1, 2, none⟩) (Nat.le_succ _) (.int .i64 (ps : Int))).setCell (p := ⟨w.heap.size + 1, 3, none⟩) (Nat.le_succ _) (.string nm)).setCell (p := ⟨w.heap.size + 1, 4, none⟩) (Nat.le_succ _) (.string tx)).setCell (p := ⟨w.heap.size + 1, 5, none⟩) (Nat.le_succ _) (.slice ao ats.length cp)).setCell (p := ⟨w.heap.size + 1, 6, none⟩) (Nat.le_succ _) (.int .i64 0)).setCell (p := ⟨w.heap.size + 1, 7, none⟩) (Nat.le_succ _) (.int .i64 0))
      have x0 := cell_of_row w3 (w.heap.size + 1) 0 _ _ _ HX.out
      have fx0 : w3.frozen? ⟨w.heap.size + 1, 0, none⟩ = false := frozen_of_row w3 (w.heap.size + 1) 0 _ _ HX.out
      have x1 := cell_of_row w3 (w.heap.size + 1) 1 _ _ _ HX.out
      have fx1 : w3.frozen? ⟨w.heap.size + 1, 1, none⟩ = false := frozen_of_row w3 (w.heap.size + 1) 1 _ _ HX.out
      have x2 := cell_of_row w3 (w.heap.size + 1) 2 _ _ _ HX.out
      have fx2 : w3.frozen? ⟨w.heap.size + 1, 2, none⟩ = false := frozen_of_row w3 (w.heap.size + 1) 2 _ _ HX.out
      have x3 := cell_of_row w3 (w.heap.size + 1) 3 _ _ _ HX.out
      have fx3 : w3.frozen? ⟨w.heap.size + 1, 3, none⟩ = false := frozen_of_row w3 (w.heap.size + 1) 3 _ _ HX.out
      have x4 := cell_of_row w3 (w.heap.size + 1) 4 _ _ _ HX.out
      have fx4 : w3.frozen? ⟨w.heap.size + 1, 4, none⟩ = false := frozen_of_row w3 (w.heap.size + 1) 4 _ _ HX.out
      have x5 := cell_of_row w3 (w.heap.size + 1) 5 _ _ _ HX.out
      have fx5 : w3.frozen? ⟨w.heap.size + 1, 5, none⟩ = false := frozen_of_row w3 (w.heap.size + 1) 5 _ _ HX.out
      have x6 := cell_of_row w3 (w.heap.size + 1) 6 _ _ _ HX.out
      have fx6 : w3.frozen? ⟨w.heap.size + 1, 6, none⟩ = false := frozen_of_row w3 (w.heap.size + 1) 6 _ _ HX.out
      have x7 := cell_of_row w3 (w.heap.size + 1) 7 _ _ _ HX.out
      have fx7 : w3.frozen? ⟨w.heap.size + 1, 7, none⟩ = false := frozen_of_row w3 (w.heap.size + 1) 7 _ _ HX.out
      simp only [List.getElem?_toArray, List.getElem?_cons_zero, List.getElem?_cons_succ] at x0 x1 x2 x3 x4 x5 x6 x7
      clear hb3 h3 h5 hq
      unfold stV
      go_wp2
      rw [← HW.out]
      clear x0 fx0 x1 fx1 x2 fx2 x3 fx3 x4 fx4 x5 fx5 x6 fx6 x7 fx7
      have x0 := cell_of_row W (w.heap.size + 1) 0 _ _ _ HXW.out
      have x1 := cell_of_row W (w.heap.size + 1) 1 _ _ _ HXW.out
      have x2 := cell_of_row W (w.heap.size + 1) 2 _ _ _ HXW.out
      have x3 := cell_of_row W (w.heap.size + 1) 3 _ _ _ HXW.out
      have x4 := cell_of_row W (w.heap.size + 1) 4 _ _ _ HXW.out
      have x5 := cell_of_row W (w.heap.size + 1) 5 _ _ _ HXW.out
      have x6 := cell_of_row W (w.heap.size + 1) 6 _ _ _ HXW.out
      have x7 := cell_of_row W (w.heap.size + 1) 7 _ _ _ HXW.out
      have z0 := cell_of_row W w.heap.size 0 _ _ _ HZW.out
      have y0 : W.frozen? ⟨w.heap.size, 0, none⟩ = false := frozen_of_row W w.heap.size 0 _ _ HZW.out
      have z1 := cell_of_row W w.heap.size 1 _ _ _ HZW.out
      have y1 : W.frozen? ⟨w.heap.size, 1, none⟩ = false := frozen_of_row W w.heap.size 1 _ _ HZW.out
      have z2 := cell_of_row W w.heap.size 2 _ _ _ HZW.out
      have y2 : W.frozen? ⟨w.heap.size, 2, none⟩ = false := frozen_of_row W w.heap.size 2 _ _ HZW.out
      have z3 := cell_of_row W w.heap.size 3 _ _ _ HZW.out
      have y3 : W.frozen? ⟨w.heap.size, 3, none⟩ = false := frozen_of_row W w.heap.size 3 _ _ HZW.out
      have z4 := cell_of_row W w.heap.size 4 _ _ _ HZW.out
      have y4 : W.frozen? ⟨w.heap.size, 4, none⟩ = false := frozen_of_row W w.heap.size 4 _ _ HZW.out
      simp only [List.getElem?_toArray, List.getElem?_cons_zero, List.getElem?_cons_succ] at x0 x1 x2 x3 x4 x5 x6 x7 z0 z1 z2 z3 z4
      clear HW
      go_region
      all_goals
        go_wp2
        refine bodyPost_ret (v := .tuple #[tokV ⟨kd, ps, nm, tx, ats⟩ (.slice ao ats.length cp), .int .i64 (n : Int), .int .i64 0, .int .i64 0]) (by simp [results, Tryz.results14, go_sem, tokV, z0, z1, z2, z3, z4]) rfl ⟨(told5 BB.out _ _ _ _ _).drew, Or.inr ⟨_, _, .slice ao ats.length cp, HR.out, rfl, told5r RR.out (by simp; omega) _ _ _ _ _⟩⟩
  | false =>
    have H1 : Hid (L.thereB s i (ByteArray.mk #[60, 47]).data.toList = false) := hid h1
    cases h2 : L.thereB s i [60] with
    | true =>
      have HE0 : Hid (L.oneP s (i : Int) = L.begP s i) := hid (by rw [oneP_nat hi]; unfold L.oneN; rw [if_neg (by rw [h1]; simp), if_pos h2])
      have b60 : ((s[i].toNat : Int) == 60) = true := by
        have := h2
        rw [L.there1 s i 60 hi] at this
        rw [← beq_iff_eq.1 this]
        rfl
      clear h1 h2
      go_enter Tryz.func14, Tryz.ntmps14
      go_wp2_with fail
      refine (rthere_any s i ⟨#[60, 47]⟩ false _ (by omega) (by omega) (by decide) H1).mono ?_
      rintro e w2 ⟨rfl, rfl⟩
      go_wp2_with fail
      refine Calls.mono (rbeg_st s i _ hi hz) ?_
      rintro e w3 ⟨hb3, ⟨q, e0, h3, h4, rfl⟩ | ⟨⟨kd, ps, nm, tx, ats⟩, n, v, h3, rfl, h5⟩⟩
      · have HZ := hid ((hb3.block _ (lt_of_block HZ0.out)).trans HZ0.out)
        have HX := hid ((hb3.block _ (lt_of_block HX0.out)).trans HX0.out)
        have HB3 := hid (HB0.out.trans (hb3.mono HB0.out.size))
        have HR : Hid (L.oneP s (i : Int) = .error (q, e0)) := hid (by rw [HE0.out]; exact h3)
        have b9 : (e0 != 0) = true := bne_iff_ne.2 h4
        have HE := hid h4
        clear hb3 h3 h4
        obtain ⟨W, HW⟩ : ∃ W, Hid (W = ((((((((w3.setCell ⟨w.heap.size + 1, 0, none⟩ (.int .i64 0)).setCell ⟨w.heap.size + 1, 1, none⟩ (.int .i64 0)).setCell ⟨w.heap.size + 1, 2, none⟩ (.int .i64 0)).setCell ⟨w.heap.size + 1, 3, none⟩ (.string ⟨#[]⟩)).setCell ⟨w.heap.size + 1, 4, none⟩ (.string ⟨#[]⟩)).setCell ⟨w.heap.size + 1, 5, none⟩ (.slice none 0 0)).setCell ⟨w.heap.size + 1, 6, none⟩ (.int .i64 q)).setCell ⟨w.heap.size + 1, 7, none⟩ (.int .i64 e0))) := ⟨_, hid rfl⟩
        have HXW : Hid (W.heap[w.heap.size + 1]? = some (.cells #[.int .i64 0, .int .i64 0, .int .i64 0, .string ⟨#[]⟩, .string ⟨#[]⟩, .slice none 0 0, .int .i64 q, .int .i64 e0] 63 (0, 0))) := hid (by rw [HW.out]; exact put8x HX.out _ _ _ _ _ _ _ _)
        have HZW : Hid (W.heap[w.heap.size]? = some zeroO) := hid (by rw [HW.out, put8z (by omega)]; exact HZ.out)
        have BB : Hid (Below w.heap.size w W) := hid (by rw [HW.out]; exact (((((((HB3.out.setCell (p := ⟨w.heap.size + 1, 0, none⟩) (Nat.le_succ _) (.int .i64 0)).setCell (p := ⟨w.heap.size + 1, 1, none⟩) (Nat.le_succ _) (.int .i64 0)).setCell (p := ⟨w.heap.size + 1, 2, none⟩) (Nat.le_succ _) (.int .i64 0)).setCell (p := ⟨w.heap.size + 1, 3, none⟩) (Nat.le_succ _) (.string ⟨#[]⟩)).setCell (p := ⟨w.heap.size + 1, 4, none⟩) (Nat.le_succ _) (.string ⟨#[]⟩)).setCell (p := ⟨w.heap.size + 1, 5, none⟩) (Nat.le_succ _) (.slice none 0 0)).setCell (p := ⟨w.heap.size + 1, 6, none⟩) (Nat.le_succ _) (.int .i64 q)).setCell (p := ⟨w.heap.size + 1, 7, none⟩) (Nat.le_succ _) (.int .i64 e0))
        have x0 := cell_of_row w3 (w.heap.size + 1) 0 _ _ _ HX.out
        have fx0 : w3.frozen? ⟨w.heap.size + 1, 0, none⟩ = false := frozen_of_row w3 (w.heap.size + 1) 0 _ _ HX.out
        have x1 := cell_of_row w3 (w.heap.size + 1) 1 _ _ _ HX.out
        have fx1 : w3.frozen? ⟨w.heap.size + 1, 1, none⟩ = false := frozen_of_row w3 (w.heap.size + 1) 1 _ _ HX.out
        have x2 := cell_of_row w3 (w.heap.size + 1) 2 _ _ _ HX.out
        have fx2 : w3.frozen? ⟨w.heap.size + 1, 2, none⟩ = false := frozen_of_row w3 (w.heap.size + 1) 2 _ _ HX.out
        have x3 := cell_of_row w3 (w.heap.size + 1) 3 _ _ _ HX.out
        have fx3 : w3.frozen? ⟨w.heap.size + 1, 3, none⟩ = false := frozen_of_row w3 (w.heap.size + 1) 3 _ _ HX.out
        have x4 := cell_of_row w3 (w.heap.size + 1) 4 _ _ _ HX.out
        have fx4 : w3.frozen? ⟨w.heap.size + 1, 4, none⟩ = false := frozen_of_row w3 (w.heap.size + 1) 4 _ _ HX.out
        have x5 := cell_of_row w3 (w.heap.size + 1) 5 _ _ _ HX.out
        have fx5 : w3.frozen? ⟨w.heap.size + 1, 5, none⟩ = false := frozen_of_row w3 (w.heap.size + 1) 5 _ _ HX.out
        have x6 := cell_of_row w3 (w.heap.size + 1) 6 _ _ _ HX.out
        have fx6 : w3.frozen? ⟨w.heap.size + 1, 6, none⟩ = false := frozen_of_row w3 (w.heap.size + 1) 6 _ _ HX.out
        have x7 := cell_of_row w3 (w.heap.size + 1) 7 _ _ _ HX.out
        have fx7 : w3.frozen? ⟨w.heap.size + 1, 7, none⟩ = false := frozen_of_row w3 (w.heap.size + 1) 7 _ _ HX.out
        simp only [List.getElem?_toArray, List.getElem?_cons_zero, List.getElem?_cons_succ] at x0 x1 x2 x3 x4 x5 x6 x7
        unfold badV stV
        go_wp2
        rw [← HW.out]
        clear x0 fx0 x1 fx1 x2 fx2 x3 fx3 x4 fx4 x5 fx5 x6 fx6 x7 fx7
        have x0 := cell_of_row W (w.heap.size + 1) 0 _ _ _ HXW.out
        have x1 := cell_of_row W (w.heap.size + 1) 1 _ _ _ HXW.out
        have x2 := cell_of_row W (w.heap.size + 1) 2 _ _ _ HXW.out
        have x3 := cell_of_row W (w.heap.size + 1) 3 _ _ _ HXW.out
        have x4 := cell_of_row W (w.heap.size + 1) 4 _ _ _ HXW.out
        have x5 := cell_of_row W (w.heap.size + 1) 5 _ _ _ HXW.out
        have x6 := cell_of_row W (w.heap.size + 1) 6 _ _ _ HXW.out
        have x7 := cell_of_row W (w.heap.size + 1) 7 _ _ _ HXW.out
        have z0 := cell_of_row W w.heap.size 0 _ _ _ HZW.out
        have y0 : W.frozen? ⟨w.heap.size, 0, none⟩ = false := frozen_of_row W w.heap.size 0 _ _ HZW.out
        have z1 := cell_of_row W w.heap.size 1 _ _ _ HZW.out
        have y1 : W.frozen? ⟨w.heap.size, 1, none⟩ = false := frozen_of_row W w.heap.size 1 _ _ HZW.out
        have z2 := cell_of_row W w.heap.size 2 _ _ _ HZW.out
        have y2 : W.frozen? ⟨w.heap.size, 2, none⟩ = false := frozen_of_row W w.heap.size 2 _ _ HZW.out
        have z3 := cell_of_row W w.heap.size 3 _ _ _ HZW.out
        have y3 : W.frozen? ⟨w.heap.size, 3, none⟩ = false := frozen_of_row W w.heap.size 3 _ _ HZW.out
        have z4 := cell_of_row W w.heap.size 4 _ _ _ HZW.out
        have y4 : W.frozen? ⟨w.heap.size, 4, none⟩ = false := frozen_of_row W w.heap.size 4 _ _ HZW.out
        simp only [List.getElem?_toArray, List.getElem?_cons_zero, List.getElem?_cons_succ] at x0 x1 x2 x3 x4 x5 x6 x7 z0 z1 z2 z3 z4
        clear HW
        go_region
        all_goals
          go_wp2
          refine bodyPost_ret (v := .tuple #[zeroT, .int .i64 0, .int .i64 q, .int .i64 e0]) (by simp [results, Tryz.results14, go_sem, zeroT, z0, z1, z2, z3, z4]) rfl ⟨(told5 BB.out _ _ _ _ _).drew, Or.inl ⟨_, _, HR.out, HE.out, rfl⟩⟩
      · obtain ⟨ao, cp, rfl⟩ := att_len h5
        dsimp only at *
        have HZ := hid ((hb3.block _ (lt_of_block HZ0.out)).trans HZ0.out)
        have HX := hid ((hb3.block _ (lt_of_block HX0.out)).trans HX0.out)
        have HB3 := hid (HB0.out.trans (hb3.mono HB0.out.size))
        have HR : Hid (L.oneP s (i : Int) = .ok (⟨kd, ps, nm, tx, ats⟩, n)) := hid (by rw [HE0.out]; exact h3)
        have hq : ∀ q, (⟨w.heap.size + 1, q, none⟩ : Addr).block < ((w.alloc zeroO).alloc zeroS).heap.size := fun q => by show w.heap.size + 1 < _; simp
        obtain ⟨W, HW⟩ : ∃ W, Hid (W = ((((((((w3.setCell ⟨w.heap.size + 1, 0, none⟩ (.int .i64 (n : Int))).setCell ⟨w.heap.size + 1, 1, none⟩ (.int .i64 kd)).setCell ⟨w.heap.size + 1, 2, none⟩ (.int .i64 (ps : Int))).setCell ⟨w.heap.size + 1, 3, none⟩ (.string nm)).setCell ⟨w.heap.size + 1, 4, none⟩ (.string tx)).setCell ⟨w.heap.size + 1, 5, none⟩ (.slice ao ats.length cp)).setCell ⟨w.heap.size + 1, 6, none⟩ (.int .i64 0)).setCell ⟨w.heap.size + 1, 7, none⟩ (.int .i64 0))) := ⟨_, hid rfl⟩
        have HXW : Hid (W.heap[w.heap.size + 1]? = some (.cells #[.int .i64 (n : Int), .int .i64 kd, .int .i64 (ps : Int), .string nm, .string tx, .slice ao ats.length cp, .int .i64 0, .int .i64 0] 63 (0, 0))) := hid (by rw [HW.out]; exact put8x HX.out _ _ _ _ _ _ _ _)
        have HZW : Hid (W.heap[w.heap.size]? = some zeroO) := hid (by rw [HW.out, put8z (by omega)]; exact HZ.out)
        have RR : Hid (W.ownsRow ((w.alloc zeroO).alloc zeroS).heap.size 67 2 (.slice ao ats.length cp) ats.length (encL ats)) := hid (by rw [HW.out]; exact ownsRow_setCell_below (ownsRow_setCell_below (ownsRow_setCell_below (ownsRow_setCell_below (ownsRow_setCell_below (ownsRow_setCell_below (ownsRow_setCell_below (ownsRow_setCell_below h5 (hq 0) (.int .i64 (n : Int))) (hq 1) (.int .i64 kd)) (hq 2) (.int .i64 (ps : Int))) (hq 3) (.string nm)) (hq 4) (.string tx)) (hq 5) (.slice ao ats.length cp)) (hq 6) (.int .i64 0)) (hq 7) (.int .i64 0))
        have BB : Hid (Below w.heap.size w W) := hid (by rw [HW.out]; exact (((((((HB3.out.setCell (p := ⟨w.heap.size + 1, 0, none⟩) (Nat.le_succ _) (.int .i64 (n : Int))).setCell (p := ⟨w.heap.size + 1, 1, none⟩) (Nat.le_succ _) (.int .i64 kd)).setCell (p := ⟨w.heap.size + 1, 2, none⟩) (Nat.le_succ _) (.int .i64 (ps : Int))).setCell (p := ⟨w.heap.size + 1, 3, none⟩) (Nat.le_succ _) (.string nm)).setCell (p := ⟨w.heap.size + 1, 4, none⟩) (Nat.le_succ _) (.string tx)).setCell (p := ⟨w.heap.size + 1, 5, none⟩) (Nat.le_succ _) (.slice ao ats.length cp)).setCell (p := ⟨w.heap.size + 1, 6, none⟩) (Nat.le_succ _) (.int .i64 0)).setCell (p := ⟨w.heap.size + 1, 7, none⟩) (Nat.le_succ _) (.int .i64 0))
        have x0 := cell_of_row w3 (w.heap.size + 1) 0 _ _ _ HX.out
        have fx0 : w3.frozen? ⟨w.heap.size + 1, 0, none⟩ = false := frozen_of_row w3 (w.heap.size + 1) 0 _ _ HX.out
        have x1 := cell_of_row w3 (w.heap.size + 1) 1 _ _ _ HX.out
        have fx1 : w3.frozen? ⟨w.heap.size + 1, 1, none⟩ = false := frozen_of_row w3 (w.heap.size + 1) 1 _ _ HX.out
        have x2 := cell_of_row w3 (w.heap.size + 1) 2 _ _ _ HX.out
        have fx2 : w3.frozen? ⟨w.heap.size + 1, 2, none⟩ = false := frozen_of_row w3 (w.heap.size + 1) 2 _ _ HX.out
        have x3 := cell_of_row w3 (w.heap.size + 1) 3 _ _ _ HX.out
        have fx3 : w3.frozen? ⟨w.heap.size + 1, 3, none⟩ = false := frozen_of_row w3 (w.heap.size + 1) 3 _ _ HX.out
        have x4 := cell_of_row w3 (w.heap.size + 1) 4 _ _ _ HX.out
        have fx4 : w3.frozen? ⟨w.heap.size + 1, 4, none⟩ = false := frozen_of_row w3 (w.heap.size + 1) 4 _ _ HX.out
        have x5 := cell_of_row w3 (w.heap.size + 1) 5 _ _ _ HX.out
        have fx5 : w3.frozen? ⟨w.heap.size + 1, 5, none⟩ = false := frozen_of_row w3 (w.heap.size + 1) 5 _ _ HX.out
        have x6 := cell_of_row w3 (w.heap.size + 1) 6 _ _ _ HX.out
        have fx6 : w3.frozen? ⟨w.heap.size + 1, 6, none⟩ = false := frozen_of_row w3 (w.heap.size + 1) 6 _ _ HX.out
        have x7 := cell_of_row w3 (w.heap.size + 1) 7 _ _ _ HX.out
        have fx7 : w3.frozen? ⟨w.heap.size + 1, 7, none⟩ = false := frozen_of_row w3 (w.heap.size + 1) 7 _ _ HX.out
        simp only [List.getElem?_toArray, List.getElem?_cons_zero, List.getElem?_cons_succ] at x0 x1 x2 x3 x4 x5 x6 x7
        clear hb3 h3 h5 hq
        unfold stV
        go_wp2
        rw [← HW.out]
        clear x0 fx0 x1 fx1 x2 fx2 x3 fx3 x4 fx4 x5 fx5 x6 fx6 x7 fx7
        have x0 := cell_of_row W (w.heap.size + 1) 0 _ _ _ HXW.out
        have x1 := cell_of_row W (w.heap.size + 1) 1 _ _ _ HXW.out
        have x2 := cell_of_row W (w.heap.size + 1) 2 _ _ _ HXW.out
        have x3 := cell_of_row W (w.heap.size + 1) 3 _ _ _ HXW.out
        have x4 := cell_of_row W (w.heap.size + 1) 4 _ _ _ HXW.out
        have x5 := cell_of_row W (w.heap.size + 1) 5 _ _ _ HXW.out
        have x6 := cell_of_row W (w.heap.size + 1) 6 _ _ _ HXW.out
        have x7 := cell_of_row W (w.heap.size + 1) 7 _ _ _ HXW.out
        have z0 := cell_of_row W w.heap.size 0 _ _ _ HZW.out
        have y0 : W.frozen? ⟨w.heap.size, 0, none⟩ = false := frozen_of_row W w.heap.size 0 _ _ HZW.out
        have z1 := cell_of_row W w.heap.size 1 _ _ _ HZW.out
        have y1 : W.frozen? ⟨w.heap.size, 1, none⟩ = false := frozen_of_row W w.heap.size 1 _ _ HZW.out
        have z2 := cell_of_row W w.heap.size 2 _ _ _ HZW.out
        have y2 : W.frozen? ⟨w.heap.size, 2, none⟩ = false := frozen_of_row W w.heap.size 2 _ _ HZW.out
        have z3 := cell_of_row W w.heap.size 3 _ _ _ HZW.out
        have y3 : W.frozen? ⟨w.heap.size, 3, none⟩ = false := frozen_of_row W w.heap.size 3 _ _ HZW.out
        have z4 := cell_of_row W w.heap.size 4 _ _ _ HZW.out
        have y4 : W.frozen? ⟨w.heap.size, 4, none⟩ = false := frozen_of_row W w.heap.size 4 _ _ HZW.out
        simp only [List.getElem?_toArray, List.getElem?_cons_zero, List.getElem?_cons_succ] at x0 x1 x2 x3 x4 x5 x6 x7 z0 z1 z2 z3 z4
        clear HW
        go_region
        all_goals
          go_wp2
          refine bodyPost_ret (v := .tuple #[tokV ⟨kd, ps, nm, tx, ats⟩ (.slice ao ats.length cp), .int .i64 (n : Int), .int .i64 0, .int .i64 0]) (by simp [results, Tryz.results14, go_sem, tokV, z0, z1, z2, z3, z4]) rfl ⟨(told5 BB.out _ _ _ _ _).drew, Or.inr ⟨_, _, .slice ao ats.length cp, HR.out, rfl, told5r RR.out (by simp; omega) _ _ _ _ _⟩⟩
    | false =>
      have HE0 : Hid (L.oneP s (i : Int) = L.textP s i) := hid (by rw [oneP_nat hi]; unfold L.oneN; rw [if_neg (by rw [h1]; simp), if_neg (by rw [h2]; simp)])
      have b60 : ((s[i].toNat : Int) == 60) = false := by
        have h3 := h2
        rw [L.there1 s i 60 hi] at h3
        have h4 := byte_num s[i] 60
        have h5 : ((s[i].toNat : Int) == 60) = (s[i] == 60) := h4
        rw [h5]
        rw [beq_eq_false_iff_ne] at *
        exact fun q => h3 q.symm
      clear h1 h2
      go_enter Tryz.func14, Tryz.ntmps14
      go_wp2_with fail
      refine (rthere_any s i ⟨#[60, 47]⟩ false _ (by omega) (by omega) (by decide) H1).mono ?_
      rintro e w2 ⟨rfl, rfl⟩
      go_wp2_with fail
      refine Calls.mono (rtext_st s i _ (Nat.le_of_lt hi) hz) ?_
      rintro e w3 ⟨hb3, ⟨q, e0, h3, h4, rfl⟩ | ⟨⟨kd, ps, nm, tx, ats⟩, n, v, h3, rfl, h5⟩⟩
      · have HZ := hid ((hb3.block _ (lt_of_block HZ0.out)).trans HZ0.out)
        have HX := hid ((hb3.block _ (lt_of_block HX0.out)).trans HX0.out)
        have HB3 := hid (HB0.out.trans (hb3.mono HB0.out.size))
        have HR : Hid (L.oneP s (i : Int) = .error (q, e0)) := hid (by rw [HE0.out]; exact h3)
        have b9 : (e0 != 0) = true := bne_iff_ne.2 h4
        have HE := hid h4
        clear hb3 h3 h4
        obtain ⟨W, HW⟩ : ∃ W, Hid (W = ((((((((w3.setCell ⟨w.heap.size + 1, 0, none⟩ (.int .i64 0)).setCell ⟨w.heap.size + 1, 1, none⟩ (.int .i64 0)).setCell ⟨w.heap.size + 1, 2, none⟩ (.int .i64 0)).setCell ⟨w.heap.size + 1, 3, none⟩ (.string ⟨#[]⟩)).setCell ⟨w.heap.size + 1, 4, none⟩ (.string ⟨#[]⟩)).setCell ⟨w.heap.size + 1, 5, none⟩ (.slice none 0 0)).setCell ⟨w.heap.size + 1, 6, none⟩ (.int .i64 q)).setCell ⟨w.heap.size + 1, 7, none⟩ (.int .i64 e0))) := ⟨_, hid rfl⟩
        have HXW : Hid (W.heap[w.heap.size + 1]? = some (.cells #[.int .i64 0, .int .i64 0, .int .i64 0, .string ⟨#[]⟩, .string ⟨#[]⟩, .slice none 0 0, .int .i64 q, .int .i64 e0] 63 (0, 0))) := hid (by rw [HW.out]; exact put8x HX.out _ _ _ _ _ _ _ _)
        have HZW : Hid (W.heap[w.heap.size]? = some zeroO) := hid (by rw [HW.out, put8z (by omega)]; exact HZ.out)
        have BB : Hid (Below w.heap.size w W) := hid (by rw [HW.out]; exact (((((((HB3.out.setCell (p := ⟨w.heap.size + 1, 0, none⟩) (Nat.le_succ _) (.int .i64 0)).setCell (p := ⟨w.heap.size + 1, 1, none⟩) (Nat.le_succ _) (.int .i64 0)).setCell (p := ⟨w.heap.size + 1, 2, none⟩) (Nat.le_succ _) (.int .i64 0)).setCell (p := ⟨w.heap.size + 1, 3, none⟩) (Nat.le_succ _) (.string ⟨#[]⟩)).setCell (p := ⟨w.heap.size + 1, 4, none⟩) (Nat.le_succ _) (.string ⟨#[]⟩)).setCell (p := ⟨w.heap.size + 1, 5, none⟩) (Nat.le_succ _) (.slice none 0 0)).setCell (p := ⟨w.heap.size + 1, 6, none⟩) (Nat.le_succ _) (.int .i64 q)).setCell (p := ⟨w.heap.size + 1, 7, none⟩) (Nat.le_succ _) (.int .i64 e0))
        have x0 := cell_of_row w3 (w.heap.size + 1) 0 _ _ _ HX.out
        have fx0 : w3.frozen? ⟨w.heap.size + 1, 0, none⟩ = false := frozen_of_row w3 (w.heap.size + 1) 0 _ _ HX.out
        have x1 := cell_of_row w3 (w.heap.size + 1) 1 _ _ _ HX.out
        have fx1 : w3.frozen? ⟨w.heap.size + 1, 1, none⟩ = false := frozen_of_row w3 (w.heap.size + 1) 1 _ _ HX.out
        have x2 := cell_of_row w3 (w.heap.size + 1) 2 _ _ _ HX.out
        have fx2 : w3.frozen? ⟨w.heap.size + 1, 2, none⟩ = false := frozen_of_row w3 (w.heap.size + 1) 2 _ _ HX.out
        have x3 := cell_of_row w3 (w.heap.size + 1) 3 _ _ _ HX.out
        have fx3 : w3.frozen? ⟨w.heap.size + 1, 3, none⟩ = false := frozen_of_row w3 (w.heap.size + 1) 3 _ _ HX.out
        have x4 := cell_of_row w3 (w.heap.size + 1) 4 _ _ _ HX.out
        have fx4 : w3.frozen? ⟨w.heap.size + 1, 4, none⟩ = false := frozen_of_row w3 (w.heap.size + 1) 4 _ _ HX.out
        have x5 := cell_of_row w3 (w.heap.size + 1) 5 _ _ _ HX.out
        have fx5 : w3.frozen? ⟨w.heap.size + 1, 5, none⟩ = false := frozen_of_row w3 (w.heap.size + 1) 5 _ _ HX.out
        have x6 := cell_of_row w3 (w.heap.size + 1) 6 _ _ _ HX.out
        have fx6 : w3.frozen? ⟨w.heap.size + 1, 6, none⟩ = false := frozen_of_row w3 (w.heap.size + 1) 6 _ _ HX.out
        have x7 := cell_of_row w3 (w.heap.size + 1) 7 _ _ _ HX.out
        have fx7 : w3.frozen? ⟨w.heap.size + 1, 7, none⟩ = false := frozen_of_row w3 (w.heap.size + 1) 7 _ _ HX.out
        simp only [List.getElem?_toArray, List.getElem?_cons_zero, List.getElem?_cons_succ] at x0 x1 x2 x3 x4 x5 x6 x7
        unfold badV stV
        go_wp2
        rw [← HW.out]
        clear x0 fx0 x1 fx1 x2 fx2 x3 fx3 x4 fx4 x5 fx5 x6 fx6 x7 fx7
        have x0 := cell_of_row W (w.heap.size + 1) 0 _ _ _ HXW.out
        have x1 := cell_of_row W (w.heap.size + 1) 1 _ _ _ HXW.out
        have x2 := cell_of_row W (w.heap.size + 1) 2 _ _ _ HXW.out
        have x3 := cell_of_row W (w.heap.size + 1) 3 _ _ _ HXW.out
        have x4 := cell_of_row W (w.heap.size + 1) 4 _ _ _ HXW.out
        have x5 := cell_of_row W (w.heap.size + 1) 5 _ _ _ HXW.out
        have x6 := cell_of_row W (w.heap.size + 1) 6 _ _ _ HXW.out
        have x7 := cell_of_row W (w.heap.size + 1) 7 _ _ _ HXW.out
        have z0 := cell_of_row W w.heap.size 0 _ _ _ HZW.out
        have y0 : W.frozen? ⟨w.heap.size, 0, none⟩ = false := frozen_of_row W w.heap.size 0 _ _ HZW.out
        have z1 := cell_of_row W w.heap.size 1 _ _ _ HZW.out
        have y1 : W.frozen? ⟨w.heap.size, 1, none⟩ = false := frozen_of_row W w.heap.size 1 _ _ HZW.out
        have z2 := cell_of_row W w.heap.size 2 _ _ _ HZW.out
        have y2 : W.frozen? ⟨w.heap.size, 2, none⟩ = false := frozen_of_row W w.heap.size 2 _ _ HZW.out
        have z3 := cell_of_row W w.heap.size 3 _ _ _ HZW.out
        have y3 : W.frozen? ⟨w.heap.size, 3, none⟩ = false := frozen_of_row W w.heap.size 3 _ _ HZW.out
        have z4 := cell_of_row W w.heap.size 4 _ _ _ HZW.out
        have y4 : W.frozen? ⟨w.heap.size, 4, none⟩ = false := frozen_of_row W w.heap.size 4 _ _ HZW.out
        simp only [List.getElem?_toArray, List.getElem?_cons_zero, List.getElem?_cons_succ] at x0 x1 x2 x3 x4 x5 x6 x7 z0 z1 z2 z3 z4
        clear HW
        go_region
        all_goals
          go_wp2
          refine bodyPost_ret (v := .tuple #[zeroT, .int .i64 0, .int .i64 q, .int .i64 e0]) (by simp [results, Tryz.results14, go_sem, zeroT, z0, z1, z2, z3, z4]) rfl ⟨(told5 BB.out _ _ _ _ _).drew, Or.inl ⟨_, _, HR.out, HE.out, rfl⟩⟩
      · obtain ⟨ao, cp, rfl⟩ := att_len h5
        dsimp only at *
        have HZ := hid ((hb3.block _ (lt_of_block HZ0.out)).trans HZ0.out)
        have HX := hid ((hb3.block _ (lt_of_block HX0.out)).trans HX0.out)
        have HB3 := hid (HB0.out.trans (hb3.mono HB0.out.size))
        have HR : Hid (L.oneP s (i : Int) = .ok (⟨kd, ps, nm, tx, ats⟩, n)) := hid (by rw [HE0.out]; exact h3)
        have hq : ∀ q, (⟨w.heap.size + 1, q, none⟩ : Addr).block < ((w.alloc zeroO).alloc zeroS).heap.size := fun q => by show w.heap.size + 1 < _; simp
        obtain ⟨W, HW⟩ : ∃ W, Hid (W = ((((((((w3.setCell ⟨w.heap.size + 1, 0, none⟩ (.int .i64 (n : Int))).setCell ⟨w.heap.size + 1, 1, none⟩ (.int .i64 kd)).setCell ⟨w.heap.size + 1, 2, none⟩ (.int .i64 (ps : Int))).setCell ⟨w.heap.size + 1, 3, none⟩ (.string nm)).setCell ⟨w.heap.size + 1, 4, none⟩ (.string tx)).setCell ⟨w.heap.size + 1, 5, none⟩ (.slice ao ats.length cp)).setCell ⟨w.heap.size + 1, 6, none⟩ (.int .i64 0)).setCell ⟨w.heap.size + 1, 7, none⟩ (.int .i64 0))) := ⟨_, hid rfl⟩
        have HXW : Hid (W.heap[w.heap.size + 1]? = some (.cells #[.int .i64 (n : Int), .int .i64 kd, .int .i64 (ps : Int), .string nm, .string tx, .slice ao ats.length cp, .int .i64 0, .int .i64 0] 63 (0, 0))) := hid (by rw [HW.out]; exact put8x HX.out _ _ _ _ _ _ _ _)
        have HZW : Hid (W.heap[w.heap.size]? = some zeroO) := hid (by rw [HW.out, put8z (by omega)]; exact HZ.out)
        have RR : Hid (W.ownsRow ((w.alloc zeroO).alloc zeroS).heap.size 67 2 (.slice ao ats.length cp) ats.length (encL ats)) := hid (by rw [HW.out]; exact ownsRow_setCell_below (ownsRow_setCell_below (ownsRow_setCell_below (ownsRow_setCell_below (ownsRow_setCell_below (ownsRow_setCell_below (ownsRow_setCell_below (ownsRow_setCell_below h5 (hq 0) (.int .i64 (n : Int))) (hq 1) (.int .i64 kd)) (hq 2) (.int .i64 (ps : Int))) (hq 3) (.string nm)) (hq 4) (.string tx)) (hq 5) (.slice ao ats.length cp)) (hq 6) (.int .i64 0)) (hq 7) (.int .i64 0))
        have BB : Hid (Below w.heap.size w W) := hid (by rw [HW.out]; exact (((((((HB3.out.setCell (p := ⟨w.heap.size + 1, 0, none⟩) (Nat.le_succ _) (.int .i64 (n : Int))).setCell (p := ⟨w.heap.size + 1, 1, none⟩) (Nat.le_succ _) (.int .i64 kd)).setCell (p := ⟨w.heap.size + 1, 2, none⟩) (Nat.le_succ _) (.int .i64 (ps : Int))).setCell (p := ⟨w.heap.size + 1, 3, none⟩) (Nat.le_succ _) (.string nm)).setCell (p := ⟨w.heap.size + 1, 4, none⟩) (Nat.le_succ _) (.string tx)).setCell (p := ⟨w.heap.size + 1, 5, none⟩) (Nat.le_succ _) (.slice ao ats.length cp)).setCell (p := ⟨w.heap.size + 1, 6, none⟩) (Nat.le_succ _) (.int .i64 0)).setCell (p := ⟨w.heap.size + 1, 7, none⟩) (Nat.le_succ _) (.int .i64 0))
        have x0 := cell_of_row w3 (w.heap.size + 1) 0 _ _ _ HX.out
        have fx0 : w3.frozen? ⟨w.heap.size + 1, 0, none⟩ = false := frozen_of_row w3 (w.heap.size + 1) 0 _ _ HX.out
        have x1 := cell_of_row w3 (w.heap.size + 1) 1 _ _ _ HX.out
        have fx1 : w3.frozen? ⟨w.heap.size + 1, 1, none⟩ = false := frozen_of_row w3 (w.heap.size + 1) 1 _ _ HX.out
        have x2 := cell_of_row w3 (w.heap.size + 1) 2 _ _ _ HX.out
        have fx2 : w3.frozen? ⟨w.heap.size + 1, 2, none⟩ = false := frozen_of_row w3 (w.heap.size + 1) 2 _ _ HX.out
        have x3 := cell_of_row w3 (w.heap.size + 1) 3 _ _ _ HX.out
        have fx3 : w3.frozen? ⟨w.heap.size + 1, 3, none⟩ = false := frozen_of_row w3 (w.heap.size + 1) 3 _ _ HX.out
        have x4 := cell_of_row w3 (w.heap.size + 1) 4 _ _ _ HX.out
        have fx4 : w3.frozen? ⟨w.heap.size + 1, 4, none⟩ = false := frozen_of_row w3 (w.heap.size + 1) 4 _ _ HX.out
        have x5 := cell_of_row w3 (w.heap.size + 1) 5 _ _ _ HX.out
        have fx5 : w3.frozen? ⟨w.heap.size + 1, 5, none⟩ = false := frozen_of_row w3 (w.heap.size + 1) 5 _ _ HX.out
        have x6 := cell_of_row w3 (w.heap.size + 1) 6 _ _ _ HX.out
        have fx6 : w3.frozen? ⟨w.heap.size + 1, 6, none⟩ = false := frozen_of_row w3 (w.heap.size + 1) 6 _ _ HX.out
        have x7 := cell_of_row w3 (w.heap.size + 1) 7 _ _ _ HX.out
        have fx7 : w3.frozen? ⟨w.heap.size + 1, 7, none⟩ = false := frozen_of_row w3 (w.heap.size + 1) 7 _ _ HX.out
        simp only [List.getElem?_toArray, List.getElem?_cons_zero, List.getElem?_cons_succ] at x0 x1 x2 x3 x4 x5 x6 x7
        clear hb3 h3 h5 hq
        unfold stV
        go_wp2
        rw [← HW.out]
        clear x0 fx0 x1 fx1 x2 fx2 x3 fx3 x4 fx4 x5 fx5 x6 fx6 x7 fx7
        have x0 := cell_of_row W (w.heap.size + 1) 0 _ _ _ HXW.out
        have x1 := cell_of_row W (w.heap.size + 1) 1 _ _ _ HXW.out
        have x2 := cell_of_row W (w.heap.size + 1) 2 _ _ _ HXW.out
        have x3 := cell_of_row W (w.heap.size + 1) 3 _ _ _ HXW.out
        have x4 := cell_of_row W (w.heap.size + 1) 4 _ _ _ HXW.out
        have x5 := cell_of_row W (w.heap.size + 1) 5 _ _ _ HXW.out
        have x6 := cell_of_row W (w.heap.size + 1) 6 _ _ _ HXW.out
        have x7 := cell_of_row W (w.heap.size + 1) 7 _ _ _ HXW.out
        have z0 := cell_of_row W w.heap.size 0 _ _ _ HZW.out
        have y0 : W.frozen? ⟨w.heap.size, 0, none⟩ = false := frozen_of_row W w.heap.size 0 _ _ HZW.out
        have z1 := cell_of_row W w.heap.size 1 _ _ _ HZW.out
        have y1 : W.frozen? ⟨w.heap.size, 1, none⟩ = false := frozen_of_row W w.heap.size 1 _ _ HZW.out
        have z2 := cell_of_row W w.heap.size 2 _ _ _ HZW.out
        have y2 : W.frozen? ⟨w.heap.size, 2, none⟩ = false := frozen_of_row W w.heap.size 2 _ _ HZW.out
        have z3 := cell_of_row W w.heap.size 3 _ _ _ HZW.out
        have y3 : W.frozen? ⟨w.heap.size, 3, none⟩ = false := frozen_of_row W w.heap.size 3 _ _ HZW.out
        have z4 := cell_of_row W w.heap.size 4 _ _ _ HZW.out
        have y4 : W.frozen? ⟨w.heap.size, 4, none⟩ = false := frozen_of_row W w.heap.size 4 _ _ HZW.out
        simp only [List.getElem?_toArray, List.getElem?_cons_zero, List.getElem?_cons_succ] at x0 x1 x2 x3 x4 x5 x6 x7 z0 z1 z2 z3 z4
        clear HW
        go_region
        all_goals
          go_wp2
          refine bodyPost_ret (v := .tuple #[tokV ⟨kd, ps, nm, tx, ats⟩ (.slice ao ats.length cp), .int .i64 (n : Int), .int .i64 0, .int .i64 0]) (by simp [results, Tryz.results14, go_sem, tokV, z0, z1, z2, z3, z4]) rfl ⟨(told5 BB.out _ _ _ _ _).drew, Or.inr ⟨_, _, .slice ao ats.length cp, HR.out, rfl, told5r RR.out (by simp; omega) _ _ _ _ _⟩⟩
theorem rone_any (s : ByteArray) (z : Int) (w : World) (hz : s.size ≤ 20000) : Calls Tryz.prog 14 #[.string s, .int .i64 z] w (OnePost w (L.oneP s z)) := by
  by_cases h : z < 0 ∨ (s.size : Int) ≤ z
  · exact rone_out s z w h
  · obtain ⟨i, rfl⟩ : ∃ i : Nat, z = (i : Int) := ⟨z.toNat, by omega⟩
    exact rone_in s i w (by omega) hz
end Go.Proofs.YtafjffnijonglaaGreatDoor
