/- The walk of escape.Undo: a text is undone as the plain function says, in a builder of the call's own; nothing that was there is written. -/
import Derived.Test.YtmgemdhpjibdiaaDoorEText
namespace Go.Proofs.YtmgemdhpjibdiaaDoor
open Go.RowKit

set_option maxRecDepth 100000 in
set_option maxHeartbeats 400000 in
theorem undo_any (s : ByteArray) (v : Bool) (r : ByteArray) (k : Nat) (e0 : Int) (w : World) (ht : Tab w) (hm : s.size ≤ 140737488351232) (H : Hid (E.undoL v s.data.toList = (r.data.toList, k, e0))) :
    Calls Tryd.prog 121 #[.string s, .bool v] w fun e w' => e = .returned (.tuple #[.string r, .int .i64 (k : Int), .int .i64 e0]) ∧ Below w.heap.size w w' := by
  have Ht : Hid (Tab w) := ht
  clear ht
  go_enter Tryd.func121, Tryd.ntmps121
  go_wp2
  go_loopw [8] (fun v8 W => ∃ (o f : Nat) (acc : List UInt8), v8 = .int .i64 (o : Int) ∧ o ≤ s.size ∧ Lib.IsBuilderF 114 5 w.heap.size w.heap.size (Lib.byteCells acc) W ∧ acc.length ≤ o ∧ s.size - o < f ∧ Hid (E.undoL v s.data.toList = E.undoF v f o acc (s.data.toList.drop o)) ∧ Below w.heap.size w W) (fun v8 _ => s.size - (intOf v8).toNat)
  case atStart => exact ⟨0, s.size + 1, [], rfl, by omega, Lib.IsBuilderF.of (Lib.fresh_isBuilder _ _ w), by simp, by omega, by show _ = _; simp [E.undoL], (Below.refl _ _).alloc (Nat.le_refl _) _⟩
  case round =>
    obtain ⟨o, f, acc, rfl, ho, hI, hl, hf, HU, hb⟩ := hrel
    have hs := hb.size
    by_cases h : o < s.size
    · have dl : (s.data.toList.drop o).length = s.size - o := by simp
      have DL := hid dl
      have dn : s.data.toList.drop o ≠ [] := by
        intro q
        rw [q] at dl
        simp at dl
        omega
      have DN := hid dn
      clear dl dn
      obtain ⟨⟨m, n, e1⟩, HS⟩ : ∃ p, Hid (E.stepU v (s.data.toList.drop o) = p) := ⟨_, rfl⟩
      obtain ⟨t, HT⟩ : ∃ t : ByteArray, Hid (m = t.data.toList) := ⟨⟨m.toArray⟩, by show _ = _; simp⟩
      have HS2 : Hid (E.stepU v (s.extract o s.size).data.toList = (t.data.toList, n, e1)) := by show _ = _; rw [drop_eq, HS.out, HT.out]
      have HQ : Hid ((s.extract o s.size).size ≤ maxLen) := by show _ ≤ _; rw [size_drop]; unfold maxLen; omega
      by_cases z : e1 = 0
      · subst z
        have ok := E.step_ok v _ (by rw [HS.out])
        rw [HS.out, DL.out] at ok
        simp only at ok
        obtain ⟨k1, k2, k3⟩ := ok
        have k4 : t.size ≤ n := by rw [HT.out] at k3; simpa using k3
        clear k3
        have HU2 : Hid (E.undoL v s.data.toList = E.undoF v (f - 1) (o + n) (acc ++ t.data.toList) (s.data.toList.drop (o + n))) := by
          show _ = _
          rw [HU.out, E.undoF_ok DN.out (by rw [DL.out]; omega) HS.out, HT.out, List.drop_drop]
        clear HU HS
        go_wp2_with fail
        refine (undone_any _ v t n 0 _ (Ht.out.below hb) HQ.out HS2).mono ?_
        rintro e w1 ⟨rfl, hb1⟩
        have hI1 := bld_below hI hb1
        have hb2 : Below w.heap.size w w1 := hb.trans (hb1.mono hs)
        have hs2 := hb2.size
        clear hI hb hb1 hs
        go_wp2_with fail
        refine (writes_any w.heap.size w.heap.size _ _ _ hI1 (by rw [Lib.byteCells_length]; omega) hs2).mono ?_
        rintro e w3 ⟨rfl, h3, b3, _⟩
        go_wp2
        go_roundw
        case rel =>
          refine ⟨o + n, f - 1, acc ++ t.data.toList, by go_num, by omega, ?_, by simp; omega, by omega, HU2, hb2.trans b3⟩
          rw [Lib.byteCells_append]; exact Or.inr h3
        case measure => simp [intOf]; omega
      · have zb : (e1 == 0) = false := beq_eq_false_iff_ne.2 z
        have zc : (e1 != 0) = true := by simp [z]
        have q := HU.out
        rw [E.undoF_bad DN.out (by rw [DL.out]; omega) HS.out z] at q
        obtain ⟨e2, rfl, rfl⟩ := tri_eq H.out q
        have E1 : Hid (⟨#[]⟩ = r) := WideShapes.bytes_inj e2.symm
        clear q e2 HU HS
        go_wp2_with fail
        refine (undone_any _ v t n _ _ (Ht.out.below hb) HQ.out HS2).mono ?_
        rintro e w1 ⟨rfl, hb1⟩
        go_wp2
        go_ret3
        exact ⟨ret_sie E1.out rfl rfl, hb.trans (hb1.mono hs)⟩
    · obtain rfl : o = s.size := by omega
      have q := HU.out
      rw [List.drop_eq_nil_of_le (by simp), E.undoF_nil] at q
      obtain ⟨e2, rfl, rfl⟩ := tri_eq H.out q
      have E1 : Hid (⟨acc.toArray⟩ = r) := WideShapes.bytes_inj (by rw [e2])
      clear q e2 HU
      go_wp2_with fail
      refine (string_any w.heap.size w.heap.size acc _ hI hs).mono ?_
      rintro e w1 ⟨rfl, _, b1, _⟩
      rw [E1.out]
      go_wp2
      go_ret3
      exact ⟨rfl, hb.trans b1⟩
end Go.Proofs.YtmgemdhpjibdiaaDoor
