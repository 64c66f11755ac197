/- The walk of lexis.One at a text. -/
import Derived.Test.YtmnegpdegfianaaGreatDoorLX
namespace Go.Proofs.YtmnegpdegfianaaGreatDoor
open Go.RowKit Go.Shelf
theorem rd_start (w : World) (ht : Tab w) (s : ByteArray) (i : Nat) : RD ⟨w, [(w.heap.size, zeroObj)]⟩ (w.heap.size + 1) s i 0 i ⟨#[]⟩ ⟨#[]⟩ (.slice none 0 0) [] ((w.alloc zeroObj).alloc (rdObj s i 0 i ⟨#[]⟩ ⟨#[]⟩ (.slice none 0 0))) := by
  refine ⟨ht, Nat.le_succ _, ((Below.refl _ _).alloc (Nat.le_refl _) _).alloc (by simp) _, ?_, World.ownsRow_nil _ _ _ _, ?_⟩
  · have := heap_alloc_new (w.alloc zeroObj) (rdObj s i 0 i ⟨#[]⟩ ⟨#[]⟩ (.slice none 0 0))
    simpa using this
  · intro c hc
    simp only [List.mem_singleton] at hc
    subst hc
    refine ⟨?_, by show w.heap.size ≠ _; omega, by simp [Value.ownBlock]⟩
    show ((w.alloc zeroObj).alloc _).heap[w.heap.size]? = _
    rw [Below.heap_alloc _ _ _ (by simp)]
    exact heap_alloc_new w zeroObj
section
variable {w w' : World} {K : List (Nat × Obj)} {s : ByteArray} {i : Nat} {k : Int} {p : Nat} {nm tx : ByteArray} {v : Value} {l : List L.Attr}
theorem row_base {base base' : Nat} {e : TypeId} {size n : Nat} {xs : List Value} (h : w.ownsRow base e size v n xs) (hb : base' ≤ base) : w.ownsRow base' e size v n xs := by
  obtain ⟨h1, h2⟩ := h
  refine ⟨h1, ?_⟩
  rcases h2 with h2 | ⟨g, cap, cur, a1, a2, a3⟩
  · exact Or.inl h2
  · exact Or.inr ⟨g, cap, cur, a1, Nat.le_trans hb a2, a3⟩
/-- The token is laid where it is told from. -/
theorem told (R : RD ⟨w, K⟩ (w.heap.size + 1) s i k p nm tx v l w') (a0 a1 a2 a3 a4 : Value) :
    Below w.heap.size w (((((w'.setCell ⟨w.heap.size, 0, none⟩ a0).setCell ⟨w.heap.size, 1, none⟩ a1).setCell ⟨w.heap.size, 2, none⟩ a2).setCell ⟨w.heap.size, 3, none⟩ a3).setCell ⟨w.heap.size, 4, none⟩ a4) ∧
    (((((w'.setCell ⟨w.heap.size, 0, none⟩ a0).setCell ⟨w.heap.size, 1, none⟩ a1).setCell ⟨w.heap.size, 2, none⟩ a2).setCell ⟨w.heap.size, 3, none⟩ a3).setCell ⟨w.heap.size, 4, none⟩ a4).ownsRow w.heap.size 143 2 v l.length (encL l) := by
  have hl : ∀ q, (⟨w.heap.size, q, none⟩ : Addr).block < w.heap.size + 1 + 1 := fun q => by show w.heap.size < _; omega
  refine ⟨((((R.bel.setCell (p := ⟨w.heap.size, 0, none⟩) (Nat.le_refl _) a0).setCell (p := ⟨w.heap.size, 1, none⟩) (Nat.le_refl _) a1).setCell (p := ⟨w.heap.size, 2, none⟩) (Nat.le_refl _) a2).setCell (p := ⟨w.heap.size, 3, none⟩) (Nat.le_refl _) a3).setCell (p := ⟨w.heap.size, 4, none⟩) (Nat.le_refl _) a4, ?_⟩
  exact row_base (base := w.heap.size + 1 + 1) (ownsRow_setCell_below (ownsRow_setCell_below (ownsRow_setCell_below (ownsRow_setCell_below (ownsRow_setCell_below R.row (hl 0) a0) (hl 1) a1) (hl 2) a2) (hl 3) a3) (hl 4) a4) (by omega)
theorem RD.zero (R : RD ⟨w, K⟩ (w.heap.size + 1) s i k p nm tx v l w') (hm : (w.heap.size, zeroObj) ∈ K) : w'.heap[w.heap.size]? = some zeroObj := (R.keep _ hm).1
end
set_option maxRecDepth 100000 in
set_option maxHeartbeats 8000000 in
theorem one_txt (s : ByteArray) (i : Nat) (w : World) (ht : Tab w) (hi : i < s.size) (hz : s.size ≤ 140737488351232) (H1 : Hid (L.thereB s i [60, 47] = false)) (H2 : Hid (L.thereB s i [60] = false)) :
    Calls Tryz.prog 47 #[.string s, .int .i64 (i : Int)] w (OnePost w (L.textP s i)) := by
  have RS := hid (rd_start w ht s i)
  clear ht
  obtain ⟨j, HJ⟩ : ∃ j, Hid (L.runP (L.notB 60) s i = j) := ⟨_, hid rfl⟩
  obtain ⟨⟨u, n, e0⟩, HU⟩ : ∃ x, Hid (L.undoB false (s.extract i j) = x) := ⟨_, hid rfl⟩
  go_enter Tryz.func47, Tryz.ntmps47
  go_wp2_with fail
  refine scope_named fun F HF => ?_
  refine wp_scope_land F HF.out 0 1 (fun _ _ => False) (fun _ _ => 0) ((congrFun HF.out 0).trans rfl) ?_ (fun _ _ h => h.elim)
  go_wp2_with fail
  refine (parts_txt RS (Nat.le_of_lt hi) H1 H2).mono ?_
  rintro e w1 ⟨c, rfl, R1⟩
  have R2 := hid R1
  have d0 : w1.cell? ⟨c, 0, none⟩ = some (meth 128 (w.heap.size + 1)) := cell_of_row _ c 0 _ _ _ R1.fn
  clear R1 RS
  by_cases he : e0 = 0
  · subst he
    by_cases hl : 1500 < u.size
    · have HR : Hid (L.textP s i = .error ((i : Int), 34)) := by show _ = _; unfold L.textP; simp only; rw [HJ.out, HU.out]; simp [hl]
      go_wp2
      refine wp_loop_rounds 2 ?_
      rw [rounds_succ]
      go_wp2_with fail
      refine Calls.mono (txt_long R2 (Nat.le_of_lt hi) hz j HJ u n HU hl) ?_
      rintro e w2 ⟨rfl, R0⟩
      have R3 := hid R0
      clear R0
      have z0 := cell_of_row _ w.heap.size 0 _ _ _ ((R3.out).zero (by simp))
      have z1 := cell_of_row _ w.heap.size 1 _ _ _ ((R3.out).zero (by simp))
      have z2 := cell_of_row _ w.heap.size 2 _ _ _ ((R3.out).zero (by simp))
      have z3 := cell_of_row _ w.heap.size 3 _ _ _ ((R3.out).zero (by simp))
      have z4 := cell_of_row _ w.heap.size 4 _ _ _ ((R3.out).zero (by simp))
      have y : ∀ q, w2.frozen? ⟨w.heap.size, q, none⟩ = false := fun q => frozen_of_row _ _ q _ _ ((R3.out).zero (by simp))
      have y0 := y 0
      have y1 := y 1
      have y2 := y 2
      have y3 := y 3
      have y4 := y 4
      have c1 := (R3.out).cell 1
      have c2 := (R3.out).cell 2
      have c3 := (R3.out).cell 3
      have c4 := (R3.out).cell 4
      have c5 := (R3.out).cell 5
      have c6 := (R3.out).cell 6
      simp only [List.getElem?_toArray, List.getElem?_cons_zero, List.getElem?_cons_succ] at c1 c2 c3 c4 c5 c6 z0 z1 z2 z3 z4
      clear y
      go_wp2
      go_step3
      refine Or.inr ⟨_, (congrFun HF.out 0).trans rfl, ?_⟩
      go_wp2
      go_region
      all_goals
        go_wp2
        rw [landQ_other _ (by simp)]
        refine bodyPost_ret (v := .tuple #[zeroT, .int .i64 0, .int .i64 ((i : Nat) : Int), .int .i64 34]) (by simp [results, Tryz.results47, go_sem, zeroT, z0, z1, z2, z3, z4]) rfl ⟨(told R3.out _ _ _ _ _).1.drew, Or.inl ⟨_, _, HR.out, by decide, rfl⟩⟩
    · have hl' : u.size ≤ 1500 := by omega
      have HR : Hid (L.textP s i = .ok (⟨4, i, L.noB, u, []⟩, j)) := by show _ = _; unfold L.textP; simp only; rw [HJ.out, HU.out]; simp [hl]
      go_wp2
      refine wp_loop_rounds 2 ?_
      rw [rounds_succ]
      go_wp2_with fail
      refine Calls.mono (txt_ok R2 (Nat.le_of_lt hi) hz j HJ u n HU hl') ?_
      rintro e w2 ⟨rfl, R0⟩
      have R3 := hid R0
      clear R0
      have z0 := cell_of_row _ w.heap.size 0 _ _ _ ((R3.out).zero (by simp))
      have z1 := cell_of_row _ w.heap.size 1 _ _ _ ((R3.out).zero (by simp))
      have z2 := cell_of_row _ w.heap.size 2 _ _ _ ((R3.out).zero (by simp))
      have z3 := cell_of_row _ w.heap.size 3 _ _ _ ((R3.out).zero (by simp))
      have z4 := cell_of_row _ w.heap.size 4 _ _ _ ((R3.out).zero (by simp))
      have y : ∀ q, w2.frozen? ⟨w.heap.size, q, none⟩ = false := fun q => frozen_of_row _ _ q _ _ ((R3.out).zero (by simp))
      have y0 := y 0
      have y1 := y 1
      have y2 := y 2
      have y3 := y 3
      have y4 := y 4
      have c1 := (R3.out).cell 1
      have c2 := (R3.out).cell 2
      have c3 := (R3.out).cell 3
      have c4 := (R3.out).cell 4
      have c5 := (R3.out).cell 5
      have c6 := (R3.out).cell 6
      simp only [List.getElem?_toArray, List.getElem?_cons_zero, List.getElem?_cons_succ] at c1 c2 c3 c4 c5 c6 z0 z1 z2 z3 z4
      clear y
      go_wp2
      rw [rounds_succ]
      go_wp2
      go_region
      all_goals
        go_wp2
        rw [landQ_other _ (by simp)]
        refine bodyPost_ret (v := .tuple #[tokV ⟨4, i, L.noB, u, []⟩ (.slice none 0 0), .int .i64 ((j : Nat) : Int), .int .i64 0, .int .i64 0]) (by simp [results, Tryz.results47, go_sem, tokV, L.noB, z0, z1, z2, z3, z4]) rfl ⟨(told R3.out _ _ _ _ _).1.drew, Or.inr ⟨_, _, (.slice none 0 0), HR.out, rfl, (told R3.out _ _ _ _ _).2⟩⟩
  · have HE := hid he
    have b1 : (e0 == 0) = false := beq_eq_false_iff_ne.2 he
    have HR : Hid (L.textP s i = .error (((i + n : Nat) : Int), e0)) := by show _ = _; unfold L.textP; simp only; rw [HJ.out, HU.out]; simp [he]
    clear he
    go_wp2
    refine wp_loop_rounds 2 ?_
    rw [rounds_succ]
    go_wp2_with fail
    refine Calls.mono (txt_bad R2 (Nat.le_of_lt hi) hz j HJ u n e0 HU HE.out) ?_
    rintro e w2 ⟨rfl, R0⟩
    have R3 := hid R0
    clear R0
    have z0 := cell_of_row _ w.heap.size 0 _ _ _ ((R3.out).zero (by simp))
    have z1 := cell_of_row _ w.heap.size 1 _ _ _ ((R3.out).zero (by simp))
    have z2 := cell_of_row _ w.heap.size 2 _ _ _ ((R3.out).zero (by simp))
    have z3 := cell_of_row _ w.heap.size 3 _ _ _ ((R3.out).zero (by simp))
    have z4 := cell_of_row _ w.heap.size 4 _ _ _ ((R3.out).zero (by simp))
    have y : ∀ q, w2.frozen? ⟨w.heap.size, q, none⟩ = false := fun q => frozen_of_row _ _ q _ _ ((R3.out).zero (by simp))
    have y0 := y 0
    have y1 := y 1
    have y2 := y 2
    have y3 := y 3
    have y4 := y 4
    have c1 := (R3.out).cell 1
    have c2 := (R3.out).cell 2
    have c3 := (R3.out).cell 3
    have c4 := (R3.out).cell 4
    have c5 := (R3.out).cell 5
    have c6 := (R3.out).cell 6
    simp only [List.getElem?_toArray, List.getElem?_cons_zero, List.getElem?_cons_succ] at c1 c2 c3 c4 c5 c6 z0 z1 z2 z3 z4
    clear y
    go_wp2
    go_step3
    refine Or.inr ⟨_, (congrFun HF.out 0).trans rfl, ?_⟩
    go_wp2
    go_region
    all_goals
      go_wp2
      rw [landQ_other _ (by simp)]
      refine bodyPost_ret (v := .tuple #[zeroT, .int .i64 0, .int .i64 ((i + n : Nat) : Int), .int .i64 e0]) (by simp [results, Tryz.results47, go_sem, zeroT, z0, z1, z2, z3, z4]) rfl ⟨(told R3.out _ _ _ _ _).1.drew, Or.inl ⟨_, _, HR.out, HE.out, rfl⟩⟩
end Go.Proofs.YtmnegpdegfianaaGreatDoor
