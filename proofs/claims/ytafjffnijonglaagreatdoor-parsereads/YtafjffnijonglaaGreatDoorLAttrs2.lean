/- The walk of the reader's attributes, whole. -/
import Derived.Test.YtafjffnijonglaaGreatDoorLAttrs
namespace Go.Proofs.YtafjffnijonglaaGreatDoor
open Go.RowKit Go.Shelf
/-- What is told, and left, behind attributes. -/
def AttrsPost (W0 : Base) (b : Nat) (s : ByteArray) (k : Int) (p : Nat) (nm tx : ByteArray) (res : Except L.Bad (List L.Attr × Nat)) (e : Ending) (w' : World) : Prop :=
  (∃ (q : Nat) (e0 : Int) (v' : Value) (l' : List L.Attr), res = .error ((q : Int), e0) ∧ e = .returned (.int .i64 e0) ∧ e0 ≠ 0 ∧ RD W0 b s q k p nm tx v' l' w') ∨
  (∃ (acc : List L.Attr) (n : Nat) (v' : Value), res = .ok (acc, n) ∧ e = .returned (.int .i64 0) ∧ RD W0 b s n k p nm tx v' (L.sortA acc) w')
def funcs3 (b : Nat) : Obj := .cells #[.func (.func 56) #[.pointer (some ⟨b, 0, none⟩)] #[], .func (.func 57) #[.pointer (some ⟨b, 0, none⟩)] #[], .func (.func 58) #[.pointer (some ⟨b, 0, none⟩)] #[]] 58 (0, 0)
section
variable {W0 : Base} {b : Nat} {s : ByteArray} {i : Nat} {k : Int} {p : Nat} {nm tx : ByteArray} {v : Value} {l : List L.Attr} {w : World}
theorem RD.guards (R : RD W0 b s i k p nm tx v l w) (o : Obj) : RD ⟨W0.W, (w.heap.size, o) :: W0.K⟩ b s i k p nm tx v l (w.alloc o) :=
  (R.new o).guard w.heap.size o (heap_alloc_new w o) (by have := R.lt; omega) R.own
theorem RD.f3 {W : World} {c : Nat} {K : List (Nat × Obj)} (R : RD ⟨W, (c, funcs3 b) :: K⟩ b s i k p nm tx v l w) : w.heap[c]? = some (funcs3 b) := (R.keep _ (List.mem_cons_self ..)).1
set_option maxRecDepth 100000 in
set_option maxHeartbeats 4000000 in
theorem attributes_any (R : Hid (RD W0 b s i k p nm tx v l w)) (hi : i ≤ s.size) (hz : s.size ≤ 140737488351232) (ha : L.Apart l) (hl : l.length ≤ 20) (f : Nat) (hf : s.size - i < f) (res : Except L.Bad (List L.Attr × Nat)) (H : Hid (L.attrsF f s i l = res)) :
    Calls Tryz.prog 37 #[.pointer (some ⟨b, 0, none⟩)] w (AttrsPost W0 b s k p nm tx res) := by
  have HA := hid ha
  clear ha
  go_enter Tryz.func37, Tryz.ntmps37
  go_wp2_with fail
  refine scope_named fun F HF => ?_
  refine wp_scope_land F HF.out 0 1 (fun _ _ => False) (fun _ _ => 0) ((congrFun HF.out 0).trans rfl) ?_ (fun _ _ h => h.elim)
  go_wp2_with fail
  go_loopw [3] (fun v3 W => ∃ (j g : Nat) (v' : Value) (l' : List L.Attr), v3 = .int .i64 0 ∧ j ≤ s.size ∧ s.size - j < g ∧ l'.length ≤ 20 ∧ Hid (L.attrsF g s j l' = res) ∧ Hid (L.Apart l') ∧ Hid (RD W0 b s j k p nm tx v' l' W)) (fun _ W => s.size - atOf b W)
  case atStart => exact ⟨i, f, v, l, rfl, hi, hf, hl, H, HA, R⟩
  case round =>
    clear H HA R hi hf hl
    obtain ⟨j, g, v', l', rfl, hj, hg, hl, H, HA, RJ⟩ := hrel
    obtain ⟨j', HJ⟩ : ∃ j', Hid (L.runP L.blankB s j = j') := ⟨_, hid rfl⟩
    have j1 : j ≤ j' := by rw [← HJ.out]; exact L.run_ge _ _ _
    have j2 : j' ≤ s.size := by rw [← HJ.out]; exact L.run_le hj
    go_wp2_with fail
    refine (more_any RJ hj hz j' HJ).mono ?_
    rintro e w1 ⟨rfl, R1⟩
    cases hm : L.moreB s j j' with
    | false =>
      have R2 := hid R1
      clear R1
      have c6 := R2.out.cell 6
      simp only [List.getElem?_toArray, List.getElem?_cons_zero, List.getElem?_cons_succ] at c6
      have HR : Hid (res = .ok (l', j')) := by show _ = _; rw [← H.out, L.attrs_stop (by omega) (by rw [HJ.out]; exact hm), HJ.out]
      go_wp2_with fail
      refine (sort_any R2.out HA.out hl).mono ?_
      rintro e w2 ⟨rfl, R3⟩
      have R4 := hid R3
      clear R3 c6
      go_wp2
      go_step3
      go_wp2
      rw [landQ_other _ (by simp)]
      go_ret
      exact Or.inr ⟨l', j', v', HR.out, rfl, R4.out⟩
    | true =>
      have HM : Hid (L.moreB s j (L.runP L.blankB s j) = true) := hid (by rw [HJ.out]; exact hm)
      clear hm
      have R2 := hid (R1.guards (funcs3 b))
      clear R1
      have lt1 : Hid (b < w1.heap.size) := hid (by have := R2.out.low; have h2 := R2.out.keep _ (List.mem_cons_self ..); have h3 := R2.out.lt; simp only [World.size_alloc] at h3; have h4 : w1.heap.size ≠ b := h2.2.1; omega)
      have bad : ∀ (e0 : Int) (w' : World), e0 ≠ 0 → BadAt ⟨W0.W, (w1.heap.size, funcs3 b) :: W0.K⟩ b s j' k p nm tx l' e0 w' → AttrsPost W0 b s k p nm tx res (.returned (.int .i64 e0)) w' := by
        rintro e0 w' h0 ⟨q, v2, l2, h1, h2⟩
        exact Or.inl ⟨q, e0, v2, l2, by rw [← H.out, L.attrs_bad (by omega) HM.out (by rw [HJ.out]; exact h1)], rfl, h0, h2.free⟩
      have BAD := hid bad
      clear bad
      rcases attr_three R2.out j2 hz hl with ⟨e1, he1, m1⟩ | ⟨m1, h2⟩
      · have E1 := hid he1
        have b1 : (e1 == 0) = false := beq_eq_false_iff_ne.2 he1
        have N1 := hid m1
        clear he1 m1
        go_wp2
        refine wp_loop_rounds 4 ?_
        rw [rounds_succ]
        go_wp2_with fail
        refine Calls.mono N1.out ?_
        rintro e w2 ⟨rfl, hb⟩
        have HB := hid hb
        clear hb
        go_wp2
        go_step3
        refine Or.inr ⟨_, (congrFun HF.out 0).trans rfl, ?_⟩
        go_wp2
        rw [landQ_other _ (by simp)]
        go_ret
        exact BAD.out e1 w2 E1.out HB.out
      have N1 := hid m1
      clear m1
      rcases h2 with ⟨e2, he2, m2⟩ | ⟨m2, h3⟩
      · have E2 := hid he2
        have b2 : (e2 == 0) = false := beq_eq_false_iff_ne.2 he2
        have N2 := hid m2
        clear he2 m2
        go_wp2
        refine wp_loop_rounds 4 ?_
        rw [rounds_succ]
        go_wp2_with fail
        refine Calls.mono N1.out ?_
        rintro e w2 ⟨rfl, hb⟩
        have d1 : w2.cell? ⟨w1.heap.size, 1, none⟩ = some (.func (.func 57) #[.pointer (some ⟨b, 0, none⟩)] #[]) := by obtain ⟨_, R5⟩ := hb; exact cell_of_row _ _ 1 _ _ _ R5.f3
        have HB := hid hb
        clear hb
        go_wp2
        rw [rounds_succ]
        go_wp2_with fail
        refine Calls.mono (N2.out _ HB.out) ?_
        rintro e w3 ⟨rfl, hb⟩
        have HB3 := hid hb
        clear hb
        go_wp2
        go_step3
        refine Or.inr ⟨_, (congrFun HF.out 0).trans rfl, ?_⟩
        go_wp2
        rw [landQ_other _ (by simp)]
        go_ret
        exact BAD.out e2 w3 E2.out HB3.out
      have N2 := hid m2
      clear m2
      rcases h3 with ⟨e3, he3, m3⟩ | m3
      · have E3 := hid he3
        have b3 : (e3 == 0) = false := beq_eq_false_iff_ne.2 he3
        have N3 := hid m3
        clear he3 m3
        go_wp2
        refine wp_loop_rounds 4 ?_
        rw [rounds_succ]
        go_wp2_with fail
        refine Calls.mono N1.out ?_
        rintro e w2 ⟨rfl, hb⟩
        have d1 : w2.cell? ⟨w1.heap.size, 1, none⟩ = some (.func (.func 57) #[.pointer (some ⟨b, 0, none⟩)] #[]) := by obtain ⟨_, R5⟩ := hb; exact cell_of_row _ _ 1 _ _ _ R5.f3
        have HB := hid hb
        clear hb
        go_wp2
        rw [rounds_succ]
        go_wp2_with fail
        refine Calls.mono (N2.out _ HB.out) ?_
        rintro e w3 ⟨rfl, hb⟩
        have d2 : w3.cell? ⟨w1.heap.size, 2, none⟩ = some (.func (.func 58) #[.pointer (some ⟨b, 0, none⟩)] #[]) := by obtain ⟨_, R5⟩ := hb; exact cell_of_row _ _ 2 _ _ _ R5.f3
        have HB3 := hid hb
        clear hb
        go_wp2
        rw [rounds_succ]
        go_wp2_with fail
        refine Calls.mono (N3.out _ HB3.out) ?_
        rintro e w4 ⟨rfl, hb⟩
        have HB4 := hid hb
        clear hb
        go_wp2
        go_step3
        refine Or.inr ⟨_, (congrFun HF.out 0).trans rfl, ?_⟩
        go_wp2
        rw [landQ_other _ (by simp)]
        go_ret
        exact BAD.out e3 w4 E3.out HB4.out
      · have N3 := hid m3
        clear m3
        go_wp2
        refine wp_loop_rounds 4 ?_
        rw [rounds_succ]
        go_wp2_with fail
        refine Calls.mono N1.out ?_
        rintro e w2 ⟨rfl, hb⟩
        have d1 : w2.cell? ⟨w1.heap.size, 1, none⟩ = some (.func (.func 57) #[.pointer (some ⟨b, 0, none⟩)] #[]) := by obtain ⟨_, R5⟩ := hb; exact cell_of_row _ _ 1 _ _ _ R5.f3
        have HB := hid hb
        clear hb
        go_wp2
        rw [rounds_succ]
        go_wp2_with fail
        refine Calls.mono (N2.out _ HB.out) ?_
        rintro e w3 ⟨rfl, hb⟩
        have d2 : w3.cell? ⟨w1.heap.size, 2, none⟩ = some (.func (.func 58) #[.pointer (some ⟨b, 0, none⟩)] #[]) := by obtain ⟨_, R5⟩ := hb; exact cell_of_row _ _ 2 _ _ _ R5.f3
        have HB3 := hid hb
        clear hb
        go_wp2
        rw [rounds_succ]
        go_wp2_with fail
        refine Calls.mono (N3.out _ HB3.out) ?_
        rintro e w4 ⟨rfl, hb⟩
        obtain ⟨a, n, v4, hA, R7⟩ := hb
        have HP : Hid (L.attrP s j' l' = .ok (a, n)) := hid hA
        have R8 := hid R7.free
        have m1 := Hid.out (hid RJ.out.atOf)
        have m2 := R7.atOf
        have ng := L.attr_go hA
        have nl := (L.attr_ok hA).2.1
        have HN : Hid (L.attrsF (g - 1) s n (l' ++ [a]) = res) := hid (by rw [← H.out, L.attrs_next (by omega) HM.out (by rw [HJ.out]; exact hA)])
        have HA2 : Hid (L.Apart (l' ++ [a])) := hid (L.apart_snoc HA.out (L.attr_apart hA))
        have M1' := hid m1
        have M2' := hid m2
        clear hA R7 m1 m2
        go_wp2
        rw [rounds_succ]
        go_wp2
        go_roundw
        case rel => exact ⟨n, g - 1, v4, l' ++ [a], rfl, by omega, by omega, by simp; omega, HN, HA2, R8⟩
        case measure => rw [M1'.out, M2'.out]; omega
end
end Go.Proofs.YtafjffnijonglaaGreatDoor
