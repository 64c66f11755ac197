/- The walk of the document's own reference: it tells the reference that a text, whose first byte is &, begins with. -/
import Derived.Test.YtafjffnijonglaaGreatDoorERWalk
namespace Go.Proofs.YtafjffnijonglaaGreatDoor
open Go.RowKit
/-- The two rows that the call lays: the names, and what they are for. -/
def namesLie (w W : World) : Prop := W.cell? ⟨w.heap.size, 0, none⟩ = some (.string ⟨#[38, 97, 109, 112, 59]⟩) ∧ W.cell? ⟨w.heap.size, 1, none⟩ = some (.string ⟨#[38, 108, 116, 59]⟩) ∧ W.cell? ⟨w.heap.size, 2, none⟩ = some (.string ⟨#[38, 103, 116, 59]⟩) ∧ W.cell? ⟨w.heap.size, 3, none⟩ = some (.string ⟨#[38, 113, 117, 111, 116, 59]⟩) ∧ W.cell? ⟨w.heap.size, 4, none⟩ = some (.string ⟨#[38, 97, 112, 111, 115, 59]⟩) ∧ W.cell? ⟨w.heap.size + 1, 0, none⟩ = some (.int .i64 38) ∧ W.cell? ⟨w.heap.size + 1, 1, none⟩ = some (.int .i64 60) ∧ W.cell? ⟨w.heap.size + 1, 2, none⟩ = some (.int .i64 62) ∧ W.cell? ⟨w.heap.size + 1, 3, none⟩ = some (.int .i64 34) ∧ W.cell? ⟨w.heap.size + 1, 4, none⟩ = some (.int .i64 39)
theorem nmS (j : Nat) (k : Nat) (l : List UInt8) (h : ∀ i, i < k → E.preB (E.nm i) l = false) (e : j = k) (b : E.preB (E.nm j) l = false) : ∀ i, i < k + 1 → E.preB (E.nm i) l = false := by
  intro i hi
  by_cases q : i = k
  · rw [q, ← e]; exact b
  · exact h i (by omega)
theorem ret_ii' {a b n m : Int} (h : a = b) (k : n = m) : Ending.returned (.tuple #[.int .i64 a, .int .i64 n]) = .returned (.tuple #[.int .i64 b, .int .i64 m]) := by rw [h, k]
theorem takeDrop (l : List UInt8) (a b : Nat) : (l.drop a).take (b - a) = (l.take b).drop a := by
  rw [List.drop_take]
theorem at_of (s : ByteArray) (k : Nat) (h : k < s.size) (x : Int) (e : E.peekV s.data.toList k = x) : (s[k].toNat : Int) = x := by rw [← byte_peek s k h, e]

set_option maxRecDepth 100000 in
set_option maxHeartbeats 1000000 in
theorem rreference_any (s : ByteArray) (c : Int) (n : Nat) (w : World) (hs : s.size ≤ 20000) (h0 : E.peekV s.data.toList 0 = 38) (H : Hid (E.refL s.data.toList = (c, n))) :
    Calls Tryz.prog 70 #[.string s] w fun e w' => e = .returned (.tuple #[.int .i64 c, .int .i64 (n : Int)]) ∧ Below w.heap.size w w' := by
  have H0 := hid h0
  clear h0
  go_enter Tryz.func70, Tryz.ntmps70
  go_wp2
  go_loopw [6] (fun v6 W => ∃ k : Nat, v6 = .int .i64 k ∧ k ≤ 5 ∧ Hid (∀ i, i < k → E.preB (E.nm i) s.data.toList = false) ∧ Hid (namesLie w W) ∧ Below w.heap.size w W) (fun v6 _ => 5 - (intOf v6).toNat)
  case atStart =>
    refine ⟨0, rfl, by omega, fun i hi => by omega, ?_, ((Below.refl _ _).alloc (Nat.le_refl _) _).alloc (by simp) _⟩
    show namesLie _ _
    unfold namesLie
    simp
  case round =>
    obtain ⟨k, rfl, hk, HN, HC, hb⟩ := hrel
    have hcs : k = 0 ∨ k = 1 ∨ k = 2 ∨ k = 3 ∨ k = 4 ∨ k = 5 := by omega
    rcases hcs with rfl | rfl | rfl | rfl | rfl | rfl
    · have cn : wr.cell? ⟨w.heap.size, 0, none⟩ = some (.string ⟨#[38, 97, 109, 112, 59]⟩) := HC.out.1
      have ci : wr.cell? ⟨w.heap.size + 1, 0, none⟩ = some (.int .i64 38) := HC.out.2.2.2.2.2.1
      obtain ⟨b, hp⟩ : ∃ b, Hid (E.preB (⟨#[38, 97, 109, 112, 59]⟩ : ByteArray).data.toList s.data.toList = b) := ⟨_, rfl⟩
      go_wp2_with fail
      refine (rbegins_any s ⟨#[38, 97, 109, 112, 59]⟩ b _ hp).mono ?_
      rintro e w1 ⟨rfl, rfl⟩
      cases b
      · clear cn ci
        go_wp2
        go_roundw
        case rel => exact ⟨1, rfl, by omega, nmS 0 0 _ HN.out rfl hp.out, HC, hb⟩
        case measure => simp [intOf]
      · obtain ⟨rfl, rfl⟩ := E.pair_eq H.out (E.ref_of0 hp.out)
        go_wp2
        go_region
        all_goals
          go_wp2
          go_ret2
          exact ⟨rfl, hb.drew⟩
    · have cn : wr.cell? ⟨w.heap.size, 1, none⟩ = some (.string ⟨#[38, 108, 116, 59]⟩) := HC.out.2.1
      have ci : wr.cell? ⟨w.heap.size + 1, 1, none⟩ = some (.int .i64 60) := HC.out.2.2.2.2.2.2.1
      obtain ⟨b, hp⟩ : ∃ b, Hid (E.preB (⟨#[38, 108, 116, 59]⟩ : ByteArray).data.toList s.data.toList = b) := ⟨_, rfl⟩
      go_wp2_with fail
      refine (rbegins_any s ⟨#[38, 108, 116, 59]⟩ b _ hp).mono ?_
      rintro e w1 ⟨rfl, rfl⟩
      cases b
      · clear cn ci
        go_wp2
        go_roundw
        case rel => exact ⟨2, rfl, by omega, nmS 1 1 _ HN.out rfl hp.out, HC, hb⟩
        case measure => simp [intOf]
      · obtain ⟨rfl, rfl⟩ := E.pair_eq H.out (E.ref_of1 hp.out)
        go_wp2
        go_region
        all_goals
          go_wp2
          go_ret2
          exact ⟨rfl, hb.drew⟩
    · have cn : wr.cell? ⟨w.heap.size, 2, none⟩ = some (.string ⟨#[38, 103, 116, 59]⟩) := HC.out.2.2.1
      have ci : wr.cell? ⟨w.heap.size + 1, 2, none⟩ = some (.int .i64 62) := HC.out.2.2.2.2.2.2.2.1
      obtain ⟨b, hp⟩ : ∃ b, Hid (E.preB (⟨#[38, 103, 116, 59]⟩ : ByteArray).data.toList s.data.toList = b) := ⟨_, rfl⟩
      go_wp2_with fail
      refine (rbegins_any s ⟨#[38, 103, 116, 59]⟩ b _ hp).mono ?_
      rintro e w1 ⟨rfl, rfl⟩
      cases b
      · clear cn ci
        go_wp2
        go_roundw
        case rel => exact ⟨3, rfl, by omega, nmS 2 2 _ HN.out rfl hp.out, HC, hb⟩
        case measure => simp [intOf]
      · obtain ⟨rfl, rfl⟩ := E.pair_eq H.out (E.ref_of2 hp.out)
        go_wp2
        go_region
        all_goals
          go_wp2
          go_ret2
          exact ⟨rfl, hb.drew⟩
    · have cn : wr.cell? ⟨w.heap.size, 3, none⟩ = some (.string ⟨#[38, 113, 117, 111, 116, 59]⟩) := HC.out.2.2.2.1
      have ci : wr.cell? ⟨w.heap.size + 1, 3, none⟩ = some (.int .i64 34) := HC.out.2.2.2.2.2.2.2.2.1
      obtain ⟨b, hp⟩ : ∃ b, Hid (E.preB (⟨#[38, 113, 117, 111, 116, 59]⟩ : ByteArray).data.toList s.data.toList = b) := ⟨_, rfl⟩
      go_wp2_with fail
      refine (rbegins_any s ⟨#[38, 113, 117, 111, 116, 59]⟩ b _ hp).mono ?_
      rintro e w1 ⟨rfl, rfl⟩
      cases b
      · clear cn ci
        go_wp2
        go_roundw
        case rel => exact ⟨4, rfl, by omega, nmS 3 3 _ HN.out rfl hp.out, HC, hb⟩
        case measure => simp [intOf]
      · obtain ⟨rfl, rfl⟩ := E.pair_eq H.out (E.ref_of3 hp.out)
        go_wp2
        go_region
        all_goals
          go_wp2
          go_ret2
          exact ⟨rfl, hb.drew⟩
    · have cn : wr.cell? ⟨w.heap.size, 4, none⟩ = some (.string ⟨#[38, 97, 112, 111, 115, 59]⟩) := HC.out.2.2.2.2.1
      have ci : wr.cell? ⟨w.heap.size + 1, 4, none⟩ = some (.int .i64 39) := HC.out.2.2.2.2.2.2.2.2.2
      obtain ⟨b, hp⟩ : ∃ b, Hid (E.preB (⟨#[38, 97, 112, 111, 115, 59]⟩ : ByteArray).data.toList s.data.toList = b) := ⟨_, rfl⟩
      go_wp2_with fail
      refine (rbegins_any s ⟨#[38, 97, 112, 111, 115, 59]⟩ b _ hp).mono ?_
      rintro e w1 ⟨rfl, rfl⟩
      cases b
      · clear cn ci
        go_wp2
        go_roundw
        case rel => exact ⟨5, rfl, by omega, nmS 4 4 _ HN.out rfl hp.out, HC, hb⟩
        case measure => simp [intOf]
      · obtain ⟨rfl, rfl⟩ := E.pair_eq H.out (E.ref_of4 hp.out)
        go_wp2
        go_region
        all_goals
          go_wp2
          go_ret2
          exact ⟨rfl, hb.drew⟩
    · clear hk HC
      have RR : Hid (E.refL s.data.toList = if E.peekV s.data.toList 1 = 35 then (if E.peekV s.data.toList 2 = 120 then E.numL 16 3 s.data.toList else E.numL 10 2 s.data.toList) else (0, 0)) := E.ref_rest HN.out
      clear HN
      have ls : 0 < s.size := by have := E.peek_len (l := s.data.toList) (k := 0) (by rw [H0.out]; omega); simpa using this
      have SL : Hid (s.data.toList.length = s.size) := by show _ = _; simp
      go_wp2
      go_loop [7] (fun v7 => ∃ m : Nat, v7 = .int .i64 m ∧ m ≤ s.size ∧ m ≤ 12 ∧ Hid (∀ j, j < m → E.peekV s.data.toList j ≠ 59)) (fun v7 => 20 - (intOf v7).toNat)
      case atStart => exact ⟨0, rfl, by omega, by omega, fun j hj => by omega⟩
      case round =>
        obtain ⟨m, rfl, hm, hm2, HJ⟩ := hrel
        have noneCase : (m = s.size ∨ m = 12) → Hid (c = 0 ∧ n = 0) := by
          intro q
          have nn : ∀ j, j < 12 → E.peekV s.data.toList j ≠ 59 := by
            intro j hj
            by_cases jm : j < m
            · exact HJ.out j jm
            · rw [E.peek_ge (by rw [SL.out]; omega)]; omega
          have r := RR.out
          rw [E.num_none 16 _ 3 (by omega) nn, E.num_none 10 _ 2 (by omega) nn] at r
          simp only [ite_self] at r
          obtain ⟨r1, r2⟩ := E.pair_eq H.out r
          exact ⟨r1.symm, r2.symm⟩
        have NC := hid noneCase
        clear noneCase
        by_cases e1 : m = s.size
        · obtain ⟨rfl, rfl⟩ := (NC.out (.inl e1)).out
          subst e1
          go_wp2
          go_ret2
          exact ⟨rfl, hb⟩
        by_cases e2 : m = 12
        · obtain ⟨rfl, rfl⟩ := (NC.out (.inr e2)).out
          subst e2
          have f0 : ((12 : Int) == (s.size : Int)) = false := beq_eq_false_iff_ne.2 (by omega)
          go_wp2
          go_ret2
          exact ⟨rfl, hb⟩
        · have mlt : m < s.size := by omega
          have m12 : m < 12 := by omega
          obtain ⟨x, hx⟩ : ∃ x : Int, x = (s[m].toNat : Int) := ⟨_, rfl⟩
          have PX : Hid (E.peekV s.data.toList m = x) := by show _ = _; rw [byte_peek s m mlt, hx]
          subst hx
          clear NC
          by_cases semi : (s[m].toNat : Int) = 59
          · have sb : ((s[m].toNat : Int) == 59) = true := by simp [semi]
            have sc : ((s[m].toNat : Int) != 59) = false := by simp [semi]
            have P59 : Hid (E.peekV s.data.toList m = 59) := by show _ = _; rw [PX.out, semi]
            have f0 : ((m : Int) == (s.size : Int)) = false := beq_eq_false_iff_ne.2 (by omega)
            have f1 : ((m : Int) == 12) = false := beq_eq_false_iff_ne.2 (by omega)
            clear semi PX
            obtain ⟨b2, HB2⟩ : ∃ b, Hid (E.preB (⟨#[38, 35]⟩ : ByteArray).data.toList s.data.toList = b) := ⟨_, rfl⟩
            go_wp2_with fail
            refine (rbegins_any s ⟨#[38, 35]⟩ b2 _ HB2).mono ?_
            rintro e w1 ⟨rfl, rfl⟩
            have d2 : decide (E.peekV s.data.toList 1 = 35) = b2 := by rw [← E.pre_two H0.out]; exact HB2.out
            cases b2
            · rw [decide_eq_false_iff_not] at d2
              have r := RR.out
              rw [if_neg d2] at r
              obtain ⟨rfl, rfl⟩ := E.pair_eq H.out r
              clear d2 r
              go_wp2
              go_ret2
              exact ⟨rfl, hb⟩
            · rw [decide_eq_true_eq] at d2
              have r := RR.out
              rw [if_pos d2] at r
              have m0 : m ≠ 0 := fun q => by have := P59.out; rw [q, H0.out] at this; omega
              have m1 : m ≠ 1 := fun q => by have := P59.out; rw [q, d2] at this; omega
              have R2 := hid r
              have D2 := hid d2
              clear r d2
              obtain ⟨z, HZ⟩ : ∃ z, Hid (E.numS 10 (s.extract 2 m).data.toList = z) := ⟨_, rfl⟩
              have ez : (s.extract 2 m).data.toList = (s.data.toList.take m).drop 2 := by rw [Lib.extract_data]; exact takeDrop _ _ _
              obtain ⟨b3, HB3⟩ : ∃ b, Hid (E.preB (⟨#[38, 35, 120]⟩ : ByteArray).data.toList s.data.toList = b) := ⟨_, rfl⟩
              have d3 : decide (E.peekV s.data.toList 2 = 120) = b3 := by rw [← E.pre_three H0.out D2.out]; exact HB3.out
              have ES : Hid ((s.extract 2 m).size ≤ 10) := by show _ ≤ _; rw [ByteArray.size_extract]; omega
              cases b3
              · rw [decide_eq_false_iff_not] at d3
                have r := R2.out
                rw [if_neg d3, E.num_first 10 (by omega) _ 2 m (by rw [SL.out]; exact mlt) (by omega) P59.out HJ.out z (by rw [← ez]; exact HZ.out)] at r
                clear ez d3
                by_cases zn : z < 0
                · rw [if_pos zn] at r
                  obtain ⟨rfl, rfl⟩ := E.pair_eq H.out r
                  clear r
                  go_wp2_with fail
                  refine (rnumber10_any (s.extract 2 m) z _ ES.out HZ).mono ?_
                  rintro e w2 ⟨rfl, rfl⟩
                  go_wp2_with fail
                  refine (rbegins_any s ⟨#[38, 35, 120]⟩ false _ HB3).mono ?_
                  rintro e w2 ⟨rfl, rfl⟩
                  go_wp2
                  go_ret2
                  exact ⟨rfl, hb⟩
                · rw [if_neg zn] at r
                  obtain ⟨rfl, rfl⟩ := E.pair_eq H.out r
                  clear r
                  go_wp2_with fail
                  refine (rnumber10_any (s.extract 2 m) _ _ ES.out HZ).mono ?_
                  rintro e w2 ⟨rfl, rfl⟩
                  go_wp2_with fail
                  refine (rbegins_any s ⟨#[38, 35, 120]⟩ false _ HB3).mono ?_
                  rintro e w2 ⟨rfl, rfl⟩
                  go_wp2
                  go_ret2
                  exact ⟨ret_ii' rfl (by omega), hb⟩
              · rw [decide_eq_true_eq] at d3
                have m2 : m ≠ 2 := fun q => by have := P59.out; rw [q, d3] at this; omega
                obtain ⟨y, HY⟩ : ∃ y, Hid (E.numS 16 (s.extract 3 m).data.toList = y) := ⟨_, rfl⟩
                have ey : (s.extract 3 m).data.toList = (s.data.toList.take m).drop 3 := by rw [Lib.extract_data]; exact takeDrop _ _ _
                have EY : Hid ((s.extract 3 m).size ≤ 10) := by show _ ≤ _; rw [ByteArray.size_extract]; omega
                have r := R2.out
                rw [if_pos d3, E.num_first 16 (by omega) _ 3 m (by rw [SL.out]; exact mlt) (by omega) P59.out HJ.out y (by rw [← ey]; exact HY.out)] at r
                clear ez ey d3
                by_cases zn : y < 0
                · rw [if_pos zn] at r
                  obtain ⟨rfl, rfl⟩ := E.pair_eq H.out r
                  clear r
                  go_wp2_with fail
                  refine (rnumber10_any (s.extract 2 m) z _ ES.out HZ).mono ?_
                  rintro e w2 ⟨rfl, rfl⟩
                  go_wp2_with fail
                  refine (rbegins_any s ⟨#[38, 35, 120]⟩ true _ HB3).mono ?_
                  rintro e w2 ⟨rfl, rfl⟩
                  go_wp2_with fail
                  refine (rnumber16_any (s.extract 3 m) y _ EY.out HY).mono ?_
                  rintro e w2 ⟨rfl, rfl⟩
                  go_wp2
                  go_ret2
                  exact ⟨rfl, hb⟩
                · rw [if_neg zn] at r
                  obtain ⟨rfl, rfl⟩ := E.pair_eq H.out r
                  clear r
                  go_wp2_with fail
                  refine (rnumber10_any (s.extract 2 m) z _ ES.out HZ).mono ?_
                  rintro e w2 ⟨rfl, rfl⟩
                  go_wp2_with fail
                  refine (rbegins_any s ⟨#[38, 35, 120]⟩ true _ HB3).mono ?_
                  rintro e w2 ⟨rfl, rfl⟩
                  go_wp2_with fail
                  refine (rnumber16_any (s.extract 3 m) _ _ EY.out HY).mono ?_
                  rintro e w2 ⟨rfl, rfl⟩
                  go_wp2
                  go_ret2
                  exact ⟨ret_ii' rfl (by omega), hb⟩
          · have sb : ((s[m].toNat : Int) == 59) = false := beq_eq_false_iff_ne.2 semi
            have sc : ((s[m].toNat : Int) != 59) = true := by simp [semi]
            have HJ2 : Hid (∀ j, j < m + 1 → E.peekV s.data.toList j ≠ 59) := by
              intro j hj
              by_cases jm : j = m
              · rw [jm, PX.out]; exact semi
              · exact HJ.out j (by omega)
            clear semi
            go_wp2
            go_round
            case rel => exact ⟨m + 1, by go_num, by omega, by omega, HJ2⟩
            case measure => simp [intOf]; omega
end Go.Proofs.YtafjffnijonglaaGreatDoor
