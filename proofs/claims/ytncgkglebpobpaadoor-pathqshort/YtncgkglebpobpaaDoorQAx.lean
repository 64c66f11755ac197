/- The walk of the document's own axis: does a text hold two colons, one behind the other? -/
import Derived.Test.YtncgkglebpobpaaDoorQShort2
import Derived.Test.YtncgkglebpobpaaDoorQW1
namespace Go.Proofs.YtncgkglebpobpaaDoor
open Go.RowKit Go.Shelf
namespace Q
theorem axL_drop {s : ByteArray} {k : Nat} (h : k + 1 < s.size) : axL (s.data.toList.drop k) = (((s[k]'(by omega)) == 58 && (s[k + 1]'h) == 58) || axL (s.data.toList.drop (k + 1))) := by
  have h1 : s.data.toList.drop k = (s[k]'(by omega)) :: s.data.toList.drop (k + 1) := List.drop_eq_getElem_cons (by simp; omega)
  have h2 : s.data.toList.drop (k + 1) = (s[k + 1]'h) :: s.data.toList.drop (k + 1 + 1) := List.drop_eq_getElem_cons (by simpa using h)
  rw [h1, h2]
  rfl
theorem axL_end {s : ByteArray} {k : Nat} (h : s.size ≤ k + 1) : axL (s.data.toList.drop k) = false := by
  have hl : (s.data.toList.drop k).length ≤ 1 := by simp; omega
  generalize s.data.toList.drop k = l at hl
  match l, hl with
  | [], _ => rfl
  | [_], _ => rfl
theorem head_not {q : ByteArray} (h : 0 < q.size) (c : UInt8) (hc : q[0] ≠ c) : L.thereB q 0 [c] = false := by
  have h1 : q.data.toList.drop 0 = q[0] :: q.data.toList.drop 1 := List.drop_eq_getElem_cons (by simpa using h)
  unfold L.thereB
  rw [h1]
  have : (c == q[0]) = false := beq_eq_false_iff_ne.2 (fun e => hc e.symm)
  simp [List.isPrefixOf, this]
end Q
theorem byteQ_eq {b c : UInt8} (h : b = c) : (b.toNat : Int) = (c.toNat : Int) := by rw [h]
theorem byteQ_ne {b c : UInt8} (h : b ≠ c) : (((b.toNat : Int) == (c.toNat : Int)) = false) ∧ (((b.toNat : Int) != (c.toNat : Int)) = true) := by
  have : (b.toNat : Int) ≠ (c.toNat : Int) := fun e => h (UInt8.toNat_inj.1 (by omega))
  exact ⟨beq_eq_false_iff_ne.2 this, bne_iff_ne.2 this⟩
set_option maxRecDepth 100000 in
set_option maxHeartbeats 4000000 in
theorem lawAxis_any (s : ByteArray) (hs : s.size ≤ 140737488351232) (w : World) : Calls Tryd.prog 18 #[.string s] w fun e w' => e = .returned (.bool (Q.axL s.data.toList)) ∧ Below w.heap.size w w' := by
  go_enter Tryd.func18, Tryd.ntmps18
  go_wp2
  go_loopw [3] (fun v3 W => ∃ k : Nat, v3 = .int .i64 (k : Int) ∧ k ≤ s.size ∧ Hid (Q.axL (s.data.toList.drop k) = Q.axL s.data.toList) ∧ Hid (Below w.heap.size w W)) (fun v3 _ => s.size - (intOf v3).toNat)
  case atStart => exact ⟨0, rfl, by omega, hid (by rw [List.drop_zero]), hid (Below.refl _ _)⟩
  case round =>
    obtain ⟨k, rfl, hk, HK, HB⟩ := hrel
    by_cases h : k + 1 < s.size
    · have h1 : (k : Int) + 1 < (s.size : Int) := by omega
      have hks : k < s.size := by omega
      have HD := hid (Q.axL_drop h)
      by_cases c1 : s[k] = 58
      · have e1 : (s[k].toNat : Int) = 58 := byteQ_eq c1
        by_cases c2 : s[k + 1] = 58
        · have e2 : (s[k + 1].toNat : Int) = 58 := byteQ_eq c2
          have HT : Hid (Q.axL s.data.toList = true) := hid (by rw [← HK.out, HD.out, c1, c2]; rfl)
          clear HD HK
          go_wp2
          go_ret
          exact ⟨by rw [HT.out]; rfl, HB.out⟩
        · obtain ⟨e2, e2'⟩ : ((s[k + 1].toNat : Int) == 58) = false ∧ ((s[k + 1].toNat : Int) != 58) = true := byteQ_ne (c := 58) c2
          have HN : Hid (Q.axL (s.data.toList.drop (k + 1)) = Q.axL s.data.toList) := hid (by
            rw [← HK.out, HD.out, beq_eq_false_iff_ne.2 c2, Bool.and_false, Bool.false_or])
          clear HD HK
          go_wp2
          go_round
          case rel => exact ⟨k + 1, by go_num, by omega, HN, HB⟩
          case measure => simp [intOf]; omega
      · obtain ⟨e1, e1'⟩ : ((s[k].toNat : Int) == 58) = false ∧ ((s[k].toNat : Int) != 58) = true := byteQ_ne (c := 58) c1
        have HN : Hid (Q.axL (s.data.toList.drop (k + 1)) = Q.axL s.data.toList) := hid (by
          rw [← HK.out, HD.out, beq_eq_false_iff_ne.2 c1, Bool.false_and, Bool.false_or])
        clear HD HK
        go_wp2
        go_round
        case rel => exact ⟨k + 1, by go_num, by omega, HN, HB⟩
        case measure => simp [intOf]; omega
    · have h1 : ¬ (k : Int) + 1 < (s.size : Int) := by omega
      have HT : Hid (Q.axL s.data.toList = false) := hid (by rw [← HK.out]; exact Q.axL_end (by omega))
      clear HK
      go_wp2
      go_ret
      exact ⟨by rw [HT.out]; rfl, HB.out⟩
end Go.Proofs.YtncgkglebpobpaaDoor
