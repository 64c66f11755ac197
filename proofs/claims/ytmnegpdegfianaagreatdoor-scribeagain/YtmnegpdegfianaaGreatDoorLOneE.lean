/- The walk of lexis.One at an end. -/
import Derived.Test.YtmnegpdegfianaaGreatDoorLOneT
namespace Go.Proofs.YtmnegpdegfianaaGreatDoor
open Go.RowKit Go.Shelf
set_option maxRecDepth 100000 in
set_option maxHeartbeats 8000000 in
theorem one_end (s : ByteArray) (i : Nat) (w : World) (ht : Tab w) (hi : i < s.size) (hz : s.size ≤ 140737488351232) (H1 : Hid (L.thereB s i [60, 47] = true)) :
    Calls Tryz.prog 47 #[.string s, .int .i64 (i : Int)] w (OnePost w (L.endP s i)) := by
  have RS := hid (rd_start w ht s i)
  clear ht
  have i2 : i + 2 ≤ s.size := by have := L.there_len H1.out; simp only [List.length_cons, List.length_nil] at this; omega
  obtain ⟨j, HJ⟩ : ∃ j, Hid (L.runP L.wordB s (i + 2) = j) := ⟨_, hid rfl⟩
  have j2 : j ≤ s.size := by rw [← HJ.out]; exact L.run_le i2
  obtain ⟨m, HM⟩ : ∃ m, Hid (L.runP L.blankB s j = m) := ⟨_, hid rfl⟩
  have m2 : m ≤ s.size := by rw [← HM.out]; exact L.run_le j2
  go_enter Tryz.func47, Tryz.ntmps47
  go_wp2_with fail
  refine scope_named fun F HF => ?_
  refine wp_scope_land F HF.out 0 1 (fun _ _ => False) (fun _ _ => 0) ((congrFun HF.out 0).trans rfl) ?_ (fun _ _ h => h.elim)
  go_wp2_with fail
  refine (parts_end RS (Nat.le_of_lt hi) hz H1).mono ?_
  rintro e w1 ⟨c, rfl, R1⟩
  have R2 := hid R1
  have d0 : w1.cell? ⟨c, 0, none⟩ = some (meth 123 (w.heap.size + 1)) := cell_of_row _ c 0 _ _ _ R1.fn
  clear R1 RS
  cases hn : L.nameP (s.extract (i + 2) j) with
  | false =>
    have HR : Hid (L.endP s i = .error (((i + 2 : Nat) : Int), 31)) := by show _ = _; unfold L.endP; simp only; rw [HJ.out, HM.out, if_pos hn]
    have HN := hid hn
    clear hn
    go_wp2
    refine wp_loop_rounds 4 ?_
    rw [rounds_succ]
    go_wp2_with fail
    refine Calls.mono (nm_no R2 i2 hz j HJ HN) ?_
    rintro e w2 ⟨rfl, R0⟩
    have R3 := hid R0
    clear R0
    have z0 := cell_of_row _ w.heap.size 0 _ _ _ ((R3.out).zero (by simp))
    have z1 := cell_of_row _ w.heap.size 1 _ _ _ ((R3.out).zero (by simp))
    have z2 := cell_of_row _ w.heap.size 2 _ _ _ ((R3.out).zero (by simp))
    have z3 := cell_of_row _ w.heap.size 3 _ _ _ ((R3.out).zero (by simp))
    have z4 := cell_of_row _ w.heap.size 4 _ _ _ ((R3.out).zero (by simp))
    have y : ∀ q, w2.frozen? ⟨w.heap.size, q, none⟩ = false := fun q => frozen_of_row _ _ q _ _ ((R3.out).zero (by simp))
    have y0 := y 0
    have y1 := y 1
    have y2 := y 2
    have y3 := y 3
    have y4 := y 4
    have c1 := (R3.out).cell 1
    have c2 := (R3.out).cell 2
    have c3 := (R3.out).cell 3
    have c4 := (R3.out).cell 4
    have c5 := (R3.out).cell 5
    have c6 := (R3.out).cell 6
    simp only [List.getElem?_toArray, List.getElem?_cons_zero, List.getElem?_cons_succ] at c1 c2 c3 c4 c5 c6 z0 z1 z2 z3 z4
    clear y
    go_wp2
    go_step3
    refine Or.inr ⟨_, (congrFun HF.out 0).trans rfl, ?_⟩
    go_wp2
    go_region
    all_goals
      go_wp2
      rw [landQ_other _ (by simp)]
      refine bodyPost_ret (v := .tuple #[zeroT, .int .i64 0, .int .i64 ((i + 2 : Nat) : Int), .int .i64 31]) (by simp [results, Tryz.results47, go_sem, zeroT, z0, z1, z2, z3, z4]) rfl ⟨(told R3.out _ _ _ _ _).1.drew, Or.inl ⟨_, _, HR.out, by decide, rfl⟩⟩
  | true =>
    have HN := hid hn
    have HN2 := hid hn
    clear hn
    cases hc : L.thereB s m [62] with
    | false =>
      have HR : Hid (L.endP s i = .error ((m : Int), 30)) := by show _ = _; unfold L.endP; simp only; rw [HJ.out, HM.out, if_neg (by rw [HN2.out]; simp), if_neg (by rw [hc]; simp)]
      have HC := hid hc
      clear hc
      go_wp2
      refine wp_loop_rounds 4 ?_
      rw [rounds_succ]
      go_wp2_with fail
      refine Calls.mono (nm_yes R2 i2 hz j HJ HN) ?_
      rintro e w2 ⟨rfl, R0⟩
      have R3 := hid R0
      have d1 : w2.cell? ⟨c, 1, none⟩ = some (meth 124 (w.heap.size + 1)) := cell_of_row _ c 1 _ _ _ R0.fn
      clear R0
      go_wp2
      rw [rounds_succ]
      go_wp2_with fail
      refine Calls.mono (blanks_any R3 j2 hz) ?_
      rw [HM.out]
      rintro e w3 ⟨rfl, R0⟩
      have R4 := hid R0
      have d2 : w3.cell? ⟨c, 2, none⟩ = some (meth 125 (w.heap.size + 1)) := cell_of_row _ c 2 _ _ _ R0.fn
      clear R0
      go_wp2
      rw [rounds_succ]
      go_wp2_with fail
      refine Calls.mono (close_no R4 m2 HC) ?_
      rintro e w4 ⟨rfl, R0⟩
      have R5 := hid R0
      clear R0
      have z0 := cell_of_row _ w.heap.size 0 _ _ _ ((R5.out).zero (by simp))
      have z1 := cell_of_row _ w.heap.size 1 _ _ _ ((R5.out).zero (by simp))
      have z2 := cell_of_row _ w.heap.size 2 _ _ _ ((R5.out).zero (by simp))
      have z3 := cell_of_row _ w.heap.size 3 _ _ _ ((R5.out).zero (by simp))
      have z4 := cell_of_row _ w.heap.size 4 _ _ _ ((R5.out).zero (by simp))
      have y : ∀ q, w4.frozen? ⟨w.heap.size, q, none⟩ = false := fun q => frozen_of_row _ _ q _ _ ((R5.out).zero (by simp))
      have y0 := y 0
      have y1 := y 1
      have y2 := y 2
      have y3 := y 3
      have y4 := y 4
      have c1 := (R5.out).cell 1
      have c2 := (R5.out).cell 2
      have c3 := (R5.out).cell 3
      have c4 := (R5.out).cell 4
      have c5 := (R5.out).cell 5
      have c6 := (R5.out).cell 6
      simp only [List.getElem?_toArray, List.getElem?_cons_zero, List.getElem?_cons_succ] at c1 c2 c3 c4 c5 c6 z0 z1 z2 z3 z4
      clear y
      go_wp2
      go_step3
      refine Or.inr ⟨_, (congrFun HF.out 0).trans rfl, ?_⟩
      go_wp2
      go_region
      all_goals
        go_wp2
        rw [landQ_other _ (by simp)]
        refine bodyPost_ret (v := .tuple #[zeroT, .int .i64 0, .int .i64 ((m : Nat) : Int), .int .i64 30]) (by simp [results, Tryz.results47, go_sem, zeroT, z0, z1, z2, z3, z4]) rfl ⟨(told R5.out _ _ _ _ _).1.drew, Or.inl ⟨_, _, HR.out, by decide, rfl⟩⟩
    | true =>
      have HR : Hid (L.endP s i = .ok (⟨2, i, s.extract (i + 2) j, L.noB, []⟩, m + 1)) := by show _ = _; unfold L.endP; simp only; rw [HJ.out, HM.out, if_neg (by rw [HN2.out]; simp), if_pos hc]
      have HC := hid hc
      clear hc
      go_wp2
      refine wp_loop_rounds 4 ?_
      rw [rounds_succ]
      go_wp2_with fail
      refine Calls.mono (nm_yes R2 i2 hz j HJ HN) ?_
      rintro e w2 ⟨rfl, R0⟩
      have R3 := hid R0
      have d1 : w2.cell? ⟨c, 1, none⟩ = some (meth 124 (w.heap.size + 1)) := cell_of_row _ c 1 _ _ _ R0.fn
      clear R0
      go_wp2
      rw [rounds_succ]
      go_wp2_with fail
      refine Calls.mono (blanks_any R3 j2 hz) ?_
      rw [HM.out]
      rintro e w3 ⟨rfl, R0⟩
      have R4 := hid R0
      have d2 : w3.cell? ⟨c, 2, none⟩ = some (meth 125 (w.heap.size + 1)) := cell_of_row _ c 2 _ _ _ R0.fn
      clear R0
      go_wp2
      rw [rounds_succ]
      go_wp2_with fail
      refine Calls.mono (close_yes R4 m2 hz HC) ?_
      rintro e w4 ⟨rfl, R0⟩
      have R5 := hid R0
      clear R0
      have z0 := cell_of_row _ w.heap.size 0 _ _ _ ((R5.out).zero (by simp))
      have z1 := cell_of_row _ w.heap.size 1 _ _ _ ((R5.out).zero (by simp))
      have z2 := cell_of_row _ w.heap.size 2 _ _ _ ((R5.out).zero (by simp))
      have z3 := cell_of_row _ w.heap.size 3 _ _ _ ((R5.out).zero (by simp))
      have z4 := cell_of_row _ w.heap.size 4 _ _ _ ((R5.out).zero (by simp))
      have y : ∀ q, w4.frozen? ⟨w.heap.size, q, none⟩ = false := fun q => frozen_of_row _ _ q _ _ ((R5.out).zero (by simp))
      have y0 := y 0
      have y1 := y 1
      have y2 := y 2
      have y3 := y 3
      have y4 := y 4
      have c1 := (R5.out).cell 1
      have c2 := (R5.out).cell 2
      have c3 := (R5.out).cell 3
      have c4 := (R5.out).cell 4
      have c5 := (R5.out).cell 5
      have c6 := (R5.out).cell 6
      simp only [List.getElem?_toArray, List.getElem?_cons_zero, List.getElem?_cons_succ] at c1 c2 c3 c4 c5 c6 z0 z1 z2 z3 z4
      clear y
      go_wp2
      rw [rounds_succ]
      go_wp2
      go_region
      all_goals
        go_wp2
        rw [landQ_other _ (by simp)]
        refine bodyPost_ret (v := .tuple #[tokV ⟨2, i, s.extract (i + 2) j, L.noB, []⟩ (.slice none 0 0), .int .i64 ((m + 1 : Nat) : Int), .int .i64 0, .int .i64 0]) (by simp [results, Tryz.results47, go_sem, tokV, L.noB, z0, z1, z2, z3, z4]) rfl ⟨(told R5.out _ _ _ _ _).1.drew, Or.inr ⟨_, _, (.slice none 0 0), HR.out, rfl, (told R5.out _ _ _ _ _).2⟩⟩
end Go.Proofs.YtmnegpdegfianaaGreatDoor
