/- The walks of glyph.Next over any text, of glyph.Count and of glyph.Name. -/
import Derived.Test.YtmgemdhpjibdiaaDoorGNext
import Derived.Test.YtmgemdhpjibdiaaDoorGText2
import Derived.Lib.Strings
namespace Go.Proofs.YtmgemdhpjibdiaaDoor
open Go.RowKit
theorem of_empty (s : ByteArray) (h : ¬ 0 < s.size) : s = ⟨#[]⟩ := by
  obtain ⟨d⟩ := s
  have : d.size = 0 := by
    have h2 : (ByteArray.mk d).size = d.size := rfl
    omega
  congr
  exact Array.eq_empty_of_size_eq_zero this

theorem emp_of (r : ByteArray) (h : ¬ 0 < r.size) : r.toList.isEmpty = true := by
  rw [of_empty r h, ByteArray.toList_eq]; rfl
theorem nil_of (r : ByteArray) (h : ¬ 0 < r.size) : r.data.toList = [] := by rw [of_empty r h]
theorem next_any (s : ByteArray) (c : Int) (n : Nat) (w : World) (ht : Tab w) (hm : s.size ≤ maxLen) (H : Hid (G.nextL s.data.toList = (c, n))) :
    Calls Tryd.prog 79 #[.string s] w fun e w' => e = .returned (.tuple #[.int .i32 c, .int .i64 (n : Int)]) ∧ Below w.heap.size w w' := by
  by_cases h : 0 < s.size
  · exact next_some s c n w ht h hm H
  · obtain rfl := of_empty s h
    obtain ⟨rfl, rfl⟩ := G.next_eq H.out (show G.nextL [] = (0, 0) from rfl)
    refine (next_nil w).mono ?_
    rintro e w1 ⟨rfl, rfl⟩
    exact ⟨rfl, Below.refl _ _⟩

theorem drop_eq (r : ByteArray) (n : Nat) : (r.extract n r.size).data.toList = r.data.toList.drop n := by
  rw [Lib.extract_data]
  exact List.take_of_length_le (by simp)
theorem size_drop (r : ByteArray) (n : Nat) : (r.extract n r.size).size = r.size - n := by simp
theorem ret_i64 {a b : Int} (h : a = b) : Ending.returned (.int .i64 a) = .returned (.int .i64 b) := by rw [h]

set_option maxRecDepth 100000 in
set_option maxHeartbeats 400000 in
theorem count_any (s : ByteArray) (z : Int) (w : World) (ht : Tab w) (hm : s.size ≤ maxLen) (HZ : Hid (G.countZ s.data.toList = z)) :
    Calls Tryd.prog 82 #[.string s] w fun e w' => e = .returned (.int .i64 z) ∧ Below w.heap.size w w' := by
  have Ht : Hid (Tab w) := ht
  clear ht
  have HM : Hid (s.size ≤ maxLen) := hm
  unfold maxLen at hm
  go_enter Tryd.func82, Tryd.ntmps82
  go_wp2
  go_loopw [0, 3] (fun v i W => ∃ (r : ByteArray) (k : Nat) (pre : List Int), v = .string r ∧ i = .int .i64 k ∧ k + r.size ≤ s.size ∧ Hid (pre.length = k ∧ G.chars s.data.toList = (G.chars r.data.toList).map (pre ++ ·)) ∧ Below w.heap.size w W) (fun v _ _ => match v with | .string r => r.size | _ => 0)
  case atStart => exact ⟨s, 0, [], rfl, rfl, by omega, ⟨rfl, by simp⟩, Below.refl _ _⟩
  case round =>
    obtain ⟨r, k, pre, rfl, rfl, hk, HR, hb⟩ := hrel
    by_cases h : 0 < r.size
    · have hne : r.toList.isEmpty = false := ne_of_pos r h
      have HL : Hid (r.data.toList ≠ []) := list_of_pos r h
      obtain ⟨⟨c, n⟩, HN⟩ : ∃ p, Hid (G.nextL r.data.toList = p) := ⟨_, rfl⟩
      have hn : n ≤ r.size := by have := G.next_le r.data.toList; rw [HN.out] at this; simpa using this
      by_cases n0 : n = 0
      · subst n0
        go_wp2_with fail
        refine (next_any _ c 0 _ (Ht.out.below hb) (by have := HM.out; omega) HN).mono ?_
        rintro e w1 ⟨rfl, hb1⟩
        go_wp2
        go_ret
        refine ⟨ret_i64 ?_, hb.trans (hb1.mono hb.size)⟩
        rw [← HZ.out]
        unfold G.countZ
        rw [HR.out.2, G.chars_none _ HL.out (by rw [HN.out])]
        rfl
      · have b0 : ((n : Int) == 0) = false := by simp; exact n0
        go_wp2_with fail
        refine (next_any _ c n _ (Ht.out.below hb) (by have := HM.out; omega) HN).mono ?_
        rintro e w1 ⟨rfl, hb1⟩
        go_wp2
        go_roundw
        case rel =>
          refine ⟨r.extract n r.size, k + 1, pre ++ [c], rfl, by go_num, by rw [size_drop]; omega, ⟨by simp [HR.out.1], ?_⟩, hb.trans (hb1.mono hb.size)⟩
          rw [HR.out.2, G.chars_cons _ HL.out (by rw [HN.out]; exact n0), HN.out, drop_eq]
          cases G.chars (r.data.toList.drop n) <;> simp
        case measure => simp; omega
    · have hz : r.size = 0 := by omega
      have hne : r.toList.isEmpty = true := emp_of r h
      have HL : Hid (r.data.toList = []) := nil_of r h
      go_wp2
      go_ret
      refine ⟨ret_i64 ?_, hb⟩
      rw [← HZ.out]
      unfold G.countZ
      rw [HR.out.2, HL.out, G.chars_nil]
      simp [HR.out.1]

set_option maxRecDepth 100000 in
set_option maxHeartbeats 400000 in
theorem name_any (s : ByteArray) (z : Bool) (w : World) (ht : Tab w) (hm : s.size ≤ maxLen) (HZ : Hid (G.nameB s.data.toList = z)) :
    Calls Tryd.prog 49 #[.string s] w fun e w' => e = .returned (.bool z) ∧ Below w.heap.size w w' := by
  have Ht : Hid (Tab w) := ht
  clear ht
  have HM : Hid (s.size ≤ maxLen) := hm
  unfold maxLen at hm
  by_cases big : 60 < s.size
  · go_enter Tryd.func49, Tryd.ntmps49
    go_wp2
    go_ret
    refine ⟨ret_bool ?_, Below.refl _ _⟩
    rw [← HZ.out]
    simp [G.nameB]
    intro; omega
  · obtain ⟨⟨c, n⟩, HN⟩ : ∃ p, Hid (G.nextL s.data.toList = p) := ⟨_, rfl⟩
    have E : Hid (z = (G.startB c && G.partsB s.data.toList)) := by
      show _ = _
      rw [← HZ.out]
      unfold G.nameB
      rw [HN.out]
      simp [show s.size ≤ 60 by omega]
    go_enter Tryd.func49, Tryd.ntmps49
    go_wp2_with fail
    refine (next_any _ c n _ Ht.out HM.out HN).mono ?_
    rintro e w1 ⟨rfl, hb1⟩
    go_wp2_with fail
    refine (start_any _ _ (Ht.out.below hb1)).mono ?_
    rintro e w2 ⟨rfl, hb2⟩
    have hb3 : Below w.heap.size w w2 := hb1.trans (hb2.mono hb1.size)
    clear hb1 hb2
    cases hst : G.startB c
    · have E1 : Hid (z = false) := by show _ = _; rw [E.out, hst]; rfl
      clear hst
      go_wp2
      go_ret
      exact ⟨ret_bool E1.out.symm, hb3⟩
    · have E1 : Hid (z = G.partsB s.data.toList) := by show _ = _; rw [E.out, hst]; rfl
      clear hst E HN
      go_wp2_with fail
      go_loopw [0] (fun v W => ∃ (r : ByteArray), v = .string r ∧ r.size ≤ s.size ∧ Hid (z = G.partsB r.data.toList) ∧ Below w.heap.size w W) (fun v _ => match v with | .string r => r.size | _ => 0)
      case atStart => exact ⟨s, rfl, Nat.le_refl _, E1, hb3⟩
      case round =>
        clear hb3 E1
        obtain ⟨r, rfl, hk, HR, hb⟩ := hrel
        by_cases h : 0 < r.size
        · have hne : r.toList.isEmpty = false := ne_of_pos r h
          have HL : Hid (r.data.toList ≠ []) := list_of_pos r h
          obtain ⟨⟨d, m⟩, HN⟩ : ∃ p, Hid (G.nextL r.data.toList = p) := ⟨_, rfl⟩
          have hn : m ≤ r.size := by have := G.next_le r.data.toList; rw [HN.out] at this; simpa using this
          have E2 : Hid (z = (G.partB d && G.partsB (r.data.toList.drop m))) := by
            show _ = _
            rw [HR.out, G.parts_cons _ HL.out, HN.out]
          have E3 : Hid (m = 0 → G.partB d = false) := by
            intro e
            have q := G.next_zero _ HL.out (by rw [HN.out]; exact e)
            rw [HN.out] at q
            simp only at q
            rw [q]; exact G.part_minus
          go_wp2_with fail
          refine (next_any _ d m _ (Ht.out.below hb) (by have := HM.out; omega) HN).mono ?_
          rintro e w3 ⟨rfl, hb3⟩
          have hb4 : Below w.heap.size w w3 := hb.trans (hb3.mono hb.size)
          clear hb3
          go_wp2_with fail
          refine (part_any _ _ (Ht.out.below hb4)).mono ?_
          rintro e w4 ⟨rfl, hb5⟩
          have hb6 : Below w.heap.size w w4 := hb4.trans (hb5.mono hb4.size)
          clear hb4 hb5
          cases hp : G.partB d
          · have E4 : Hid (z = false) := by show _ = _; rw [E2.out, hp]; rfl
            clear hp
            go_wp2
            go_ret
            exact ⟨ret_bool E4.out.symm, hb6⟩
          · have E4 : Hid (z = G.partsB (r.data.toList.drop m)) := by show _ = _; rw [E2.out, hp]; rfl
            have m0 : 0 < m := by
              by_cases q : m = 0
              · have := E3.out q; rw [hp] at this; cases this
              · omega
            clear hp
            go_wp2
            go_roundw
            case rel => exact ⟨r.extract m r.size, rfl, by rw [size_drop]; omega, by show _ = _; rw [drop_eq]; exact E4.out, hb6⟩
            case measure => simp; omega
        · have hz : r.size = 0 := by omega
          have hne : r.toList.isEmpty = true := emp_of r h
          have E4 : Hid (z = true) := by show _ = _; rw [HR.out, nil_of r h]; rfl
          go_wp2
          go_ret
          exact ⟨ret_bool E4.out.symm, hb⟩

end Go.Proofs.YtmgemdhpjibdiaaDoor
