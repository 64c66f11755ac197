/- The walk of lexis.One at a beginning. -/
import Derived.Test.YtmnegpdegfianaaGreatDoorLOneT
namespace Go.Proofs.YtmnegpdegfianaaGreatDoor
open Go.RowKit Go.Shelf
theorem L.beg_err {s : ByteArray} {i j : Nat} {e : L.Bad} (hj : L.runP L.wordB s (i + 1) = j) (hn : L.nameP (s.extract (i + 1) j) = true) (h : L.attrsF (s.size + 1) s j [] = .error e) : L.begP s i = .error e := by
  subst hj
  unfold L.begP
  simp only
  rw [if_neg (by rw [hn]; simp), h]
theorem L.beg_fin {s : ByteArray} {i j k : Nat} {acc : List L.Attr} (hj : L.runP L.wordB s (i + 1) = j) (hn : L.nameP (s.extract (i + 1) j) = true) (h : L.attrsF (s.size + 1) s j [] = .ok (acc, k)) :
    L.begP s i = if L.thereB s k [62] = true then .ok (⟨1, i, s.extract (i + 1) j, L.noB, L.sortA acc⟩, k + 1)
      else if L.thereB s k [47, 62] = true then .ok (⟨3, i, s.extract (i + 1) j, L.noB, L.sortA acc⟩, k + 2) else .error ((k : Int), 30) := by
  subst hj
  unfold L.begP
  simp only
  rw [if_neg (by rw [hn]; simp), h]
set_option maxRecDepth 100000 in
set_option maxHeartbeats 8000000 in
theorem one_beg (s : ByteArray) (i : Nat) (w : World) (ht : Tab w) (hi : i < s.size) (hz : s.size ≤ 140737488351232) (H1 : Hid (L.thereB s i [60, 47] = false)) (H2 : Hid (L.thereB s i [60] = true)) :
    Calls Tryz.prog 47 #[.string s, .int .i64 (i : Int)] w (OnePost w (L.begP s i)) := by
  have RS := hid (rd_start w ht s i)
  clear ht
  have i2 : i + 1 ≤ s.size := by omega
  obtain ⟨j, HJ⟩ : ∃ j, Hid (L.runP L.wordB s (i + 1) = j) := ⟨_, hid rfl⟩
  have j2 : j ≤ s.size := by rw [← HJ.out]; exact L.run_le i2
  obtain ⟨res, HS⟩ : ∃ res, Hid (L.attrsF (s.size + 1) s j [] = res) := ⟨_, hid rfl⟩
  go_enter Tryz.func47, Tryz.ntmps47
  go_wp2_with fail
  refine scope_named fun F HF => ?_
  refine wp_scope_land F HF.out 0 1 (fun _ _ => False) (fun _ _ => 0) ((congrFun HF.out 0).trans rfl) ?_ (fun _ _ h => h.elim)
  go_wp2_with fail
  refine (parts_beg RS (Nat.le_of_lt hi) hz H1 H2).mono ?_
  rintro e w1 ⟨c, rfl, R1⟩
  have R2 := hid R1
  have d0 : w1.cell? ⟨c, 0, none⟩ = some (meth 123 (w.heap.size + 1)) := cell_of_row _ c 0 _ _ _ R1.fn
  clear R1 RS
  cases hn : L.nameP (s.extract (i + 1) j) with
  | false =>
    have HR : Hid (L.begP s i = .error (((i + 1 : Nat) : Int), 31)) := by show _ = _; unfold L.begP; simp only; rw [HJ.out, if_pos hn]
    have HN := hid hn
    clear hn
    go_wp2
    refine wp_loop_rounds 5 ?_
    rw [rounds_succ]
    go_wp2_with fail
    refine Calls.mono (nm_no R2 i2 hz j HJ HN) ?_
    rintro e w2 ⟨rfl, R0⟩
    have R3 := hid R0
    clear R0
    have z0 := cell_of_row _ w.heap.size 0 _ _ _ ((R3.out).zero (by simp))
    have z1 := cell_of_row _ w.heap.size 1 _ _ _ ((R3.out).zero (by simp))
    have z2 := cell_of_row _ w.heap.size 2 _ _ _ ((R3.out).zero (by simp))
    have z3 := cell_of_row _ w.heap.size 3 _ _ _ ((R3.out).zero (by simp))
    have z4 := cell_of_row _ w.heap.size 4 _ _ _ ((R3.out).zero (by simp))
    have y : ∀ q, w2.frozen? ⟨w.heap.size, q, none⟩ = false := fun q => frozen_of_row _ _ q _ _ ((R3.out).zero (by simp))
    have y0 := y 0
    have y1 := y 1
    have y2 := y 2
    have y3 := y 3
    have y4 := y 4
    have c1 := (R3.out).cell 1
    have c2 := (R3.out).cell 2
    have c3 := (R3.out).cell 3
    have c4 := (R3.out).cell 4
    have c5 := (R3.out).cell 5
    have c6 := (R3.out).cell 6
    simp only [List.getElem?_toArray, List.getElem?_cons_zero, List.getElem?_cons_succ] at c1 c2 c3 c4 c5 c6 z0 z1 z2 z3 z4
    clear y
    go_wp2
    go_step3
    refine Or.inr ⟨_, (congrFun HF.out 0).trans rfl, ?_⟩
    go_wp2
    go_region
    all_goals
      go_wp2
      rw [landQ_other _ (by simp)]
      refine bodyPost_ret (v := .tuple #[zeroT, .int .i64 0, .int .i64 ((i + 1 : Nat) : Int), .int .i64 31]) (by simp [results, Tryz.results47, go_sem, zeroT, z0, z1, z2, z3, z4]) rfl ⟨(told R3.out _ _ _ _ _).1.drew, Or.inl ⟨_, _, HR.out, by decide, rfl⟩⟩
  | true =>
    have HN := hid hn
    have HN2 := hid hn
    clear hn
    go_wp2
    refine wp_loop_rounds 5 ?_
    rw [rounds_succ]
    go_wp2_with fail
    refine Calls.mono (nm_yes R2 i2 hz j HJ HN) ?_
    rintro e w2 ⟨rfl, R0⟩
    have R3 := hid R0
    have d1 : w2.cell? ⟨c, 1, none⟩ = some (meth 126 (w.heap.size + 1)) := cell_of_row _ c 1 _ _ _ R0.fn
    clear R0
    go_wp2
    rw [rounds_succ]
    go_wp2_with fail
    refine Calls.mono (attributes_any R3 j2 hz trivial (by simp) (s.size + 1) (by omega) res HS) ?_
    rintro e w3 (⟨q, e0, v', l', h1, rfl, h3, R0⟩ | ⟨acc, n, v', h1, rfl, R0⟩)
    · have HR : Hid (L.begP s i = .error ((q : Int), e0)) := by show _ = _; exact L.beg_err HJ.out HN2.out (HS.out.trans h1)
      have R4 := hid R0
      have HE := hid h3
      have b1 : (e0 == 0) = false := beq_eq_false_iff_ne.2 h3
      clear R0 h3 h1
      have z0 := cell_of_row _ w.heap.size 0 _ _ _ ((R4.out).zero (by simp))
      have z1 := cell_of_row _ w.heap.size 1 _ _ _ ((R4.out).zero (by simp))
      have z2 := cell_of_row _ w.heap.size 2 _ _ _ ((R4.out).zero (by simp))
      have z3 := cell_of_row _ w.heap.size 3 _ _ _ ((R4.out).zero (by simp))
      have z4 := cell_of_row _ w.heap.size 4 _ _ _ ((R4.out).zero (by simp))
      have y : ∀ q, w3.frozen? ⟨w.heap.size, q, none⟩ = false := fun q => frozen_of_row _ _ q _ _ ((R4.out).zero (by simp))
      have y0 := y 0
      have y1 := y 1
      have y2 := y 2
      have y3 := y 3
      have y4 := y 4
      have c1 := (R4.out).cell 1
      have c2 := (R4.out).cell 2
      have c3 := (R4.out).cell 3
      have c4 := (R4.out).cell 4
      have c5 := (R4.out).cell 5
      have c6 := (R4.out).cell 6
      simp only [List.getElem?_toArray, List.getElem?_cons_zero, List.getElem?_cons_succ] at c1 c2 c3 c4 c5 c6 z0 z1 z2 z3 z4
      clear y
      go_wp2
      go_step3
      refine Or.inr ⟨_, (congrFun HF.out 0).trans rfl, ?_⟩
      go_wp2
      go_region
      all_goals
        go_wp2
        rw [landQ_other _ (by simp)]
        refine bodyPost_ret (v := .tuple #[zeroT, .int .i64 0, .int .i64 ((q : Nat) : Int), .int .i64 e0]) (by simp [results, Tryz.results47, go_sem, zeroT, z0, z1, z2, z3, z4]) rfl ⟨(told R4.out _ _ _ _ _).1.drew, Or.inl ⟨_, _, HR.out, HE.out, rfl⟩⟩
    · have n2 : n ≤ s.size := (L.attrs_ok s _ _ _ _ _ (HS.out.trans h1) j2 trivial (by simp) (by simp)).2.2.2.2
      obtain ⟨ao, nn, cp, rfl⟩ : ∃ ao nn cp, v' = .slice ao nn cp := by
        rcases R0.row.2 with ⟨h, _⟩ | ⟨_, _, _, h, _⟩
        · exact ⟨_, _, _, h⟩
        · exact ⟨_, _, _, h⟩
      have R4 := hid R0
      have d2 : w3.cell? ⟨c, 2, none⟩ = some (meth 127 (w.heap.size + 1)) := cell_of_row _ c 2 _ _ _ R0.fn
      clear R0
      cases hs : L.thereB s n [47, 62] with
      | true =>
        have ht : L.thereB s n [62] = false := by
          have a1 := L.there_lt hs
          rw [L.there_cons s n 47 [62] a1, Bool.and_eq_true] at hs
          rw [L.there1 s n 62 a1]
          have a2 : (47 : UInt8) = s[n] := by simpa using hs.1
          rw [← a2]
          rfl
        have hu : L.thereB s (n + 1) [62] = true := by
          have a1 := L.there_lt hs
          rw [L.there_cons s n 47 [62] a1, Bool.and_eq_true] at hs
          exact hs.2
        have a3 := L.there_lt hu
        have HR : Hid (L.begP s i = .ok (⟨3, i, s.extract (i + 1) j, L.noB, L.sortA acc⟩, n + 2)) := by show _ = _; rw [L.beg_fin HJ.out HN2.out (HS.out.trans h1), if_neg (by rw [ht]; simp), if_pos hs]
        have HS2 := hid hs
        have HU := hid hu
        clear hs hu ht h1
        go_wp2
        rw [rounds_succ]
        go_wp2_with fail
        refine Calls.mono (slash_yes R4 n2 hz HS2) ?_
        rintro e w4 ⟨rfl, R0⟩
        have R5 := hid R0
        have d3 : w4.cell? ⟨c, 3, none⟩ = some (meth 125 (w.heap.size + 1)) := cell_of_row _ c 3 _ _ _ R0.fn
        clear R0
        go_wp2
        rw [rounds_succ]
        go_wp2_with fail
        refine Calls.mono (close_yes R5 (Nat.le_of_lt a3) hz HU) ?_
        rintro e w5 ⟨rfl, R0⟩
        have R6 := hid R0
        clear R0
        have z0 := cell_of_row _ w.heap.size 0 _ _ _ ((R6.out).zero (by simp))
        have z1 := cell_of_row _ w.heap.size 1 _ _ _ ((R6.out).zero (by simp))
        have z2 := cell_of_row _ w.heap.size 2 _ _ _ ((R6.out).zero (by simp))
        have z3 := cell_of_row _ w.heap.size 3 _ _ _ ((R6.out).zero (by simp))
        have z4 := cell_of_row _ w.heap.size 4 _ _ _ ((R6.out).zero (by simp))
        have y : ∀ q, w5.frozen? ⟨w.heap.size, q, none⟩ = false := fun q => frozen_of_row _ _ q _ _ ((R6.out).zero (by simp))
        have y0 := y 0
        have y1 := y 1
        have y2 := y 2
        have y3 := y 3
        have y4 := y 4
        have c1 := (R6.out).cell 1
        have c2 := (R6.out).cell 2
        have c3 := (R6.out).cell 3
        have c4 := (R6.out).cell 4
        have c5 := (R6.out).cell 5
        have c6 := (R6.out).cell 6
        simp only [List.getElem?_toArray, List.getElem?_cons_zero, List.getElem?_cons_succ] at c1 c2 c3 c4 c5 c6 z0 z1 z2 z3 z4
        clear y
        go_wp2
        rw [rounds_succ]
        go_wp2
        go_region
        all_goals
          go_wp2
          rw [landQ_other _ (by simp)]
          refine bodyPost_ret (v := .tuple #[tokV ⟨3, i, s.extract (i + 1) j, L.noB, L.sortA acc⟩ (.slice ao nn cp), .int .i64 ((n + 1 + 1 : Nat) : Int), .int .i64 0, .int .i64 0]) (by simp [results, Tryz.results47, go_sem, tokV, L.noB, z0, z1, z2, z3, z4]) rfl ⟨(told R6.out _ _ _ _ _).1.drew, Or.inr ⟨_, _, (.slice ao nn cp), HR.out, rfl, (told R6.out _ _ _ _ _).2⟩⟩
      | false =>
        cases hc : L.thereB s n [62] with
        | true =>
          have HR : Hid (L.begP s i = .ok (⟨1, i, s.extract (i + 1) j, L.noB, L.sortA acc⟩, n + 1)) := by show _ = _; rw [L.beg_fin HJ.out HN2.out (HS.out.trans h1), if_pos hc]
          have HS2 := hid hs
          have HC := hid hc
          clear hs hc h1
          go_wp2
          rw [rounds_succ]
          go_wp2_with fail
          refine Calls.mono (slash_no R4 n2 HS2) ?_
          rintro e w4 ⟨rfl, R0⟩
          have R5 := hid R0
          have d3 : w4.cell? ⟨c, 3, none⟩ = some (meth 125 (w.heap.size + 1)) := cell_of_row _ c 3 _ _ _ R0.fn
          clear R0
          go_wp2
          rw [rounds_succ]
          go_wp2_with fail
          refine Calls.mono (close_yes R5 n2 hz HC) ?_
          rintro e w5 ⟨rfl, R0⟩
          have R6 := hid R0
          clear R0
          have z0 := cell_of_row _ w.heap.size 0 _ _ _ ((R6.out).zero (by simp))
          have z1 := cell_of_row _ w.heap.size 1 _ _ _ ((R6.out).zero (by simp))
          have z2 := cell_of_row _ w.heap.size 2 _ _ _ ((R6.out).zero (by simp))
          have z3 := cell_of_row _ w.heap.size 3 _ _ _ ((R6.out).zero (by simp))
          have z4 := cell_of_row _ w.heap.size 4 _ _ _ ((R6.out).zero (by simp))
          have y : ∀ q, w5.frozen? ⟨w.heap.size, q, none⟩ = false := fun q => frozen_of_row _ _ q _ _ ((R6.out).zero (by simp))
          have y0 := y 0
          have y1 := y 1
          have y2 := y 2
          have y3 := y 3
          have y4 := y 4
          have c1 := (R6.out).cell 1
          have c2 := (R6.out).cell 2
          have c3 := (R6.out).cell 3
          have c4 := (R6.out).cell 4
          have c5 := (R6.out).cell 5
          have c6 := (R6.out).cell 6
          simp only [List.getElem?_toArray, List.getElem?_cons_zero, List.getElem?_cons_succ] at c1 c2 c3 c4 c5 c6 z0 z1 z2 z3 z4
          clear y
          go_wp2
          rw [rounds_succ]
          go_wp2
          go_region
          all_goals
            go_wp2
            rw [landQ_other _ (by simp)]
            refine bodyPost_ret (v := .tuple #[tokV ⟨1, i, s.extract (i + 1) j, L.noB, L.sortA acc⟩ (.slice ao nn cp), .int .i64 ((n + 1 : Nat) : Int), .int .i64 0, .int .i64 0]) (by simp [results, Tryz.results47, go_sem, tokV, L.noB, z0, z1, z2, z3, z4]) rfl ⟨(told R6.out _ _ _ _ _).1.drew, Or.inr ⟨_, _, (.slice ao nn cp), HR.out, rfl, (told R6.out _ _ _ _ _).2⟩⟩
        | false =>
          have HR : Hid (L.begP s i = .error ((n : Int), 30)) := by show _ = _; rw [L.beg_fin HJ.out HN2.out (HS.out.trans h1), if_neg (by rw [hc]; simp), if_neg (by rw [hs]; simp)]
          have HS2 := hid hs
          have HC := hid hc
          clear hs hc h1
          go_wp2
          rw [rounds_succ]
          go_wp2_with fail
          refine Calls.mono (slash_no R4 n2 HS2) ?_
          rintro e w4 ⟨rfl, R0⟩
          have R5 := hid R0
          have d3 : w4.cell? ⟨c, 3, none⟩ = some (meth 125 (w.heap.size + 1)) := cell_of_row _ c 3 _ _ _ R0.fn
          clear R0
          go_wp2
          rw [rounds_succ]
          go_wp2_with fail
          refine Calls.mono (close_no R5 n2 HC) ?_
          rintro e w5 ⟨rfl, R0⟩
          have R6 := hid R0
          clear R0
          have z0 := cell_of_row _ w.heap.size 0 _ _ _ ((R6.out).zero (by simp))
          have z1 := cell_of_row _ w.heap.size 1 _ _ _ ((R6.out).zero (by simp))
          have z2 := cell_of_row _ w.heap.size 2 _ _ _ ((R6.out).zero (by simp))
          have z3 := cell_of_row _ w.heap.size 3 _ _ _ ((R6.out).zero (by simp))
          have z4 := cell_of_row _ w.heap.size 4 _ _ _ ((R6.out).zero (by simp))
          have y : ∀ q, w5.frozen? ⟨w.heap.size, q, none⟩ = false := fun q => frozen_of_row _ _ q _ _ ((R6.out).zero (by simp))
          have y0 := y 0
          have y1 := y 1
          have y2 := y 2
          have y3 := y 3
          have y4 := y 4
          have c1 := (R6.out).cell 1
          have c2 := (R6.out).cell 2
          have c3 := (R6.out).cell 3
          have c4 := (R6.out).cell 4
          have c5 := (R6.out).cell 5
          have c6 := (R6.out).cell 6
          simp only [List.getElem?_toArray, List.getElem?_cons_zero, List.getElem?_cons_succ] at c1 c2 c3 c4 c5 c6 z0 z1 z2 z3 z4
          clear y
          go_wp2
          go_step3
          refine Or.inr ⟨_, (congrFun HF.out 0).trans rfl, ?_⟩
          go_wp2
          go_region
          all_goals
            go_wp2
            rw [landQ_other _ (by simp)]
            refine bodyPost_ret (v := .tuple #[zeroT, .int .i64 0, .int .i64 ((n : Nat) : Int), .int .i64 30]) (by simp [results, Tryz.results47, go_sem, zeroT, z0, z1, z2, z3, z4]) rfl ⟨(told R6.out _ _ _ _ _).1.drew, Or.inl ⟨_, _, HR.out, by decide, rfl⟩⟩
end Go.Proofs.YtmnegpdegfianaaGreatDoor
