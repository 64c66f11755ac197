/- The walks of glyph.Next over any text, of glyph.Count and of glyph.Name. -/
import Derived.Test.YtpkcgahgjdghaaaDoorGNext
import Derived.Test.YtpkcgahgjdghaaaDoorGText2
import Derived.Lib.Strings
namespace Go.Proofs.YtpkcgahgjdghaaaDoor
open Go.RowKit
theorem of_empty (s : ByteArray) (h : ¬ 0 < s.size) : s = ⟨#[]⟩ := by
  obtain ⟨d⟩ := s
  have : d.size = 0 := by
    have h2 : (ByteArray.mk d).size = d.size := rfl
    omega
  congr
  exact Array.eq_empty_of_size_eq_zero this

theorem emp_of (r : ByteArray) (h : ¬ 0 < r.size) : r.toList.isEmpty = true := by
  rw [of_empty r h, ByteArray.toList_eq]; rfl
theorem nil_of (r : ByteArray) (h : ¬ 0 < r.size) : r.data.toList = [] := by rw [of_empty r h]
theorem next_any (s : ByteArray) (c : Int) (n : Nat) (w : World) (ht : Tab w) (hm : s.size ≤ maxLen) (H : Hid (G.nextL s.data.toList = (c, n))) :
    Calls Tryd.prog 27 #[.string s] w fun e w' => e = .returned (.tuple #[.int .i32 c, .int .i64 (n : Int)]) ∧ Below w.heap.size w w' := by
  by_cases h : 0 < s.size
  · exact next_some s c n w ht h hm H
  · obtain rfl := of_empty s h
    obtain ⟨rfl, rfl⟩ := G.next_eq H.out (show G.nextL [] = (0, 0) from rfl)
    refine (next_nil w).mono ?_
    rintro e w1 ⟨rfl, rfl⟩
    exact ⟨rfl, Below.refl _ _⟩

theorem drop_eq (r : ByteArray) (n : Nat) : (r.extract n r.size).data.toList = r.data.toList.drop n := by
  rw [Lib.extract_data]
  exact List.take_of_length_le (by simp)
theorem size_drop (r : ByteArray) (n : Nat) : (r.extract n r.size).size = r.size - n := by simp
theorem ret_i64 {a b : Int} (h : a = b) : Ending.returned (.int .i64 a) = .returned (.int .i64 b) := by rw [h]

set_option maxRecDepth 100000 in
set_option maxHeartbeats 400000 in
theorem count_any (s : ByteArray) (z : Int) (w : World) (ht : Tab w) (hm : s.size ≤ maxLen) (HZ : Hid (G.countZ s.data.toList = z)) :
    Calls Tryd.prog 17 #[.string s] w fun e w' => e = .returned (.int .i64 z) ∧ Below w.heap.size w w' := by
  have Ht : Hid (Tab w) := ht
  clear ht
  have HM : Hid (s.size ≤ maxLen) := hm
  unfold maxLen at hm
  go_enter Tryd.func17, Tryd.ntmps17
  go_wp2
  go_loopw [0, 3] (fun v i W => ∃ (r : ByteArray) (k : Nat) (pre : List Int), v = .string r ∧ i = .int .i64 k ∧ k + r.size ≤ s.size ∧ Hid (pre.length = k ∧ G.chars s.data.toList = (G.chars r.data.toList).map (pre ++ ·)) ∧ Below w.heap.size w W) (fun v _ _ => match v with | .string r => r.size | _ => 0)
  case atStart => exact ⟨s, 0, [], rfl, rfl, by omega, ⟨rfl, by simp⟩, Below.refl _ _⟩
  case round =>
    obtain ⟨r, k, pre, rfl, rfl, hk, HR, hb⟩ := hrel
    by_cases h : 0 < r.size
    · have hne : r.toList.isEmpty = false := ne_of_pos r h
      have HL : Hid (r.data.toList ≠ []) := list_of_pos r h
      obtain ⟨⟨c, n⟩, HN⟩ : ∃ p, Hid (G.nextL r.data.toList = p) := ⟨_, rfl⟩
      have hn : n ≤ r.size := by have := G.next_le r.data.toList; rw [HN.out] at this; simpa using this
      by_cases n0 : n = 0
      · subst n0
        go_wp2_with fail
        refine (next_any _ c 0 _ (Ht.out.below hb) (by have := HM.out; omega) HN).mono ?_
        rintro e w1 ⟨rfl, hb1⟩
        go_wp2
        go_ret
        refine ⟨ret_i64 ?_, hb.trans (hb1.mono hb.size)⟩
        rw [← HZ.out]
        unfold G.countZ
        rw [HR.out.2, G.chars_none _ HL.out (by rw [HN.out])]
        rfl
      · have b0 : ((n : Int) == 0) = false := by simp; exact n0
        go_wp2_with fail
        refine (next_any _ c n _ (Ht.out.below hb) (by have := HM.out; omega) HN).mono ?_
        rintro e w1 ⟨rfl, hb1⟩
        go_wp2
        go_roundw
        case rel =>
          refine ⟨r.extract n r.size, k + 1, pre ++ [c], rfl, by go_num, by rw [size_drop]; omega, ⟨by simp [HR.out.1], ?_⟩, hb.trans (hb1.mono hb.size)⟩
          rw [HR.out.2, G.chars_cons _ HL.out (by rw [HN.out]; exact n0), HN.out, drop_eq]
          cases G.chars (r.data.toList.drop n) <;> simp
        case measure => simp; omega
    · have hz : r.size = 0 := by omega
      have hne : r.toList.isEmpty = true := emp_of r h
      have HL : Hid (r.data.toList = []) := nil_of r h
      go_wp2
      go_ret
      refine ⟨ret_i64 ?_, hb⟩
      rw [← HZ.out]
      unfold G.countZ
      rw [HR.out.2, HL.out, G.chars_nil]
      simp [HR.out.1]


end Go.Proofs.YtpkcgahgjdghaaaDoor
