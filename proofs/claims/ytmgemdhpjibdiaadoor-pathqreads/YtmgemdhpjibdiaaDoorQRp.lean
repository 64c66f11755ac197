/- The walk of pathq's rightPred. -/
import Derived.Test.YtmgemdhpjibdiaaDoorQW2
namespace Go.Proofs.YtmgemdhpjibdiaaDoor
open Go.RowKit Go.Shelf Go.Sort
namespace Q
def noneB (b : ByteArray) : Bool := decide (b.toList = [])
theorem noneB_iff (b : ByteArray) : noneB b = true ↔ b = L.noB := by
  unfold noneB
  rw [decide_eq_true_eq, ByteArray.toList_eq]
  constructor
  · intro h
    exact L.bytes_one h
  · rintro rfl
    rfl
def numB (n : Int) : Bool := decide (1 ≤ n) && decide (n ≤ 9999)
def charsB (b : ByteArray) : Bool := decide (0 ≤ G.countZ b.data.toList)
def rightPB (p : Pred) : Bool :=
  if p.kind = 1 then numB p.num && (noneB p.name && noneB p.value)
  else if p.kind = 2 then decide (p.num = 0) && (noneB p.name && noneB p.value)
  else if p.kind = 3 then L.nameP p.name && (decide (p.num = 0) && noneB p.value)
  else if p.kind = 4 then (L.nameP p.name && charsB p.value) && decide (p.num = 0)
  else if p.kind = 5 then charsB p.value && (decide (p.num = 0) && noneB p.name)
  else false
theorem rightP_B (p : Pred) : rightPB p = true ↔ rightP p := by
  unfold rightPB rightP numB charsB
  by_cases h1 : p.kind = 1
  · rw [if_pos h1]; simp [h1, and_assoc, noneB_iff]
  · rw [if_neg h1]
    by_cases h2 : p.kind = 2
    · rw [if_pos h2]; simp [h2, noneB_iff]
    · rw [if_neg h2]
      by_cases h3 : p.kind = 3
      · rw [if_pos h3]; simp [h3, noneB_iff]; exact ⟨fun ⟨a, b, c⟩ => ⟨b, a, c⟩, fun ⟨a, b, c⟩ => ⟨b, a, c⟩⟩
      · rw [if_neg h3]
        by_cases h4 : p.kind = 4
        · rw [if_pos h4]; simp [h4]; exact ⟨fun ⟨⟨a, b⟩, c⟩ => ⟨c, a, b⟩, fun ⟨a, b, c⟩ => ⟨⟨b, c⟩, a⟩⟩
        · rw [if_neg h4]
          by_cases h5 : p.kind = 5
          · rw [if_pos h5]; simp [h5, noneB_iff]; exact ⟨fun ⟨a, b, c⟩ => ⟨b, c, a⟩, fun ⟨a, b, c⟩ => ⟨c, a, b⟩⟩
          · rw [if_neg h5]; simp [h1, h2, h3, h4, h5]
end Q
theorem below_two (w : World) (o1 o2 : Obj) (m : Nat) : Below w.heap.size w (((w.alloc o1).alloc o2).drewN m) := by
  have h := ((Below.refl w.heap.size w).alloc (Nat.le_refl _) o1).alloc (by simp) o2
  exact ⟨h.os, h.tape, h.output, h.size, h.block⟩
theorem below_drew' {B : Nat} {a w : World} (h : Below B a w) : Below B a w.drew := ⟨h.os, h.tape, h.output, h.size, h.block⟩
set_option maxRecDepth 100000 in
set_option maxHeartbeats 4000000 in
theorem rpred_other (p : Q.Pred) (w : World) (h1 : p.kind ≠ 1) (h2 : p.kind ≠ 2) (h3 : p.kind ≠ 3) (h4 : p.kind ≠ 4) (h5 : p.kind ≠ 5) :
    Calls Tryd.prog 124 #[predV p] w fun e w' => e = .returned (.bool (Q.rightPB p)) ∧ Below w.heap.size w w' := by
  have HR : Hid (Q.rightPB p = false) := hid (by unfold Q.rightPB; rw [if_neg h1, if_neg h2, if_neg h3, if_neg h4, if_neg h5])
  rw [HR.out]
  obtain ⟨kd, nn, nm, vl⟩ := p
  simp only at h1 h2 h3 h4 h5
  have b1 : (kd == 1) = false := beq_eq_false_iff_ne.2 h1
  have b2 : (kd == 2) = false := beq_eq_false_iff_ne.2 h2
  have b3 : (kd == 3) = false := beq_eq_false_iff_ne.2 h3
  have b4 : (kd == 4) = false := beq_eq_false_iff_ne.2 h4
  have b5 : (kd == 5) = false := beq_eq_false_iff_ne.2 h5
  clear h1 h2 h3 h4 h5 HR
  unfold predV
  go_enter Tryd.func124, Tryd.ntmps124
  go_wp2
  go_ret
  exact ⟨rfl, ((Below.refl _ _).alloc (Nat.le_refl _) _).alloc (by simp) _⟩
set_option maxRecDepth 100000 in
set_option maxHeartbeats 4000000 in
theorem rpred_two (n : Int) (a c : ByteArray) (w : World) :
    Calls Tryd.prog 124 #[predV ⟨2, n, a, c⟩] w fun e w' => e = .returned (.bool (decide (n = 0) && (Q.noneB a && Q.noneB c))) ∧ Below w.heap.size w w' := by
  unfold predV
  go_enter Tryd.func124, Tryd.ntmps124
  go_wp2
  all_goals
    go_ret
    refine ⟨ret_bool ?_, ((Below.refl _ _).alloc (Nat.le_refl _) _).alloc (by simp) _⟩
    simp [Q.noneB, *]
set_option maxRecDepth 100000 in
set_option maxHeartbeats 4000000 in
theorem rpred_one (n : Int) (a c : ByteArray) (w : World) :
    Calls Tryd.prog 124 #[predV ⟨1, n, a, c⟩] w fun e w' => e = .returned (.bool (Q.numB n && (Q.noneB a && Q.noneB c))) ∧ Below w.heap.size w w' := by
  unfold predV
  by_cases h1 : 1 ≤ n
  · by_cases h2 : n ≤ 9999
    · rw [show Q.numB n = true by simp [Q.numB, h1, h2], Bool.true_and]
      go_enter Tryd.func124, Tryd.ntmps124
      go_wp2
      go_region
      all_goals
        go_wp2
        all_goals
          go_ret
          refine ⟨ret_bool ?_, below_two _ _ _ 1⟩
          simp [Q.noneB, *]
    · rw [show Q.numB n = false by simp [Q.numB, h1, h2], Bool.false_and]
      go_enter Tryd.func124, Tryd.ntmps124
      go_wp2
      go_region
      all_goals
        go_wp2
        all_goals
          go_ret
          exact ⟨rfl, below_two _ _ _ 1⟩
  · rw [show Q.numB n = false by simp [Q.numB, h1], Bool.false_and]
    have h1' : decide (1 ≤ n) = false := decide_eq_false h1
    have h1'' : n ≤ 0 := by omega
    go_enter Tryd.func124, Tryd.ntmps124
    go_wp2
    go_region
    all_goals
      go_wp2
      all_goals
        go_ret
        exact ⟨rfl, below_two _ _ _ 1⟩
set_option maxRecDepth 100000 in
set_option maxHeartbeats 4000000 in
theorem rpred_three (n : Int) (a c : ByteArray) (z : Bool) (w : World) (ht : Tab w) (hm : a.size ≤ maxLen) (HZ : Hid (G.nameB a.data.toList = z)) :
    Calls Tryd.prog 124 #[predV ⟨3, n, a, c⟩] w fun e w' => e = .returned (.bool (z && (decide (n = 0) && Q.noneB c))) ∧ Below w.heap.size w w' := by
  have HT := hid ht
  clear ht
  have HM := hid hm
  clear hm
  have hb2 := below_two w (predObj ⟨3, n, a, c⟩) (predObj ⟨3, 0, L.noB, L.noB⟩) 0
  have P0 : (((w.alloc (predObj ⟨3, n, a, c⟩)).alloc (predObj ⟨3, 0, L.noB, L.noB⟩))).heap[w.heap.size]? = some (predObj ⟨3, n, a, c⟩) := (heap_alloc_old _ _ (by simp)).trans (heap_alloc_new w _)
  have P1 : (((w.alloc (predObj ⟨3, n, a, c⟩)).alloc (predObj ⟨3, 0, L.noB, L.noB⟩))).heap[w.heap.size + 1]? = some (predObj ⟨3, 0, L.noB, L.noB⟩) := by
    have := heap_alloc_new (w.alloc (predObj ⟨3, n, a, c⟩)) (predObj ⟨3, 0, L.noB, L.noB⟩)
    simpa using this
  unfold predV
  go_enter Tryd.func124, Tryd.ntmps124
  go_wp2
  have HB2 : Hid (Below w.heap.size w ((w.alloc (predObj ⟨3, n, a, c⟩)).alloc (predObj ⟨3, 0, L.noB, L.noB⟩))) := hid hb2
  have HP0 := hid P0
  have HP1 := hid P1
  clear hb2 P0 P1
  show Code.wp _ _ _ _ ((w.alloc (predObj ⟨3, n, a, c⟩)).alloc (predObj ⟨3, 0, L.noB, L.noB⟩))
  generalize ((w.alloc (predObj ⟨3, n, a, c⟩)).alloc (predObj ⟨3, 0, L.noB, L.noB⟩)) = W1 at *
  obtain ⟨B1, HB1⟩ : ∃ B1, Hid (B1 = w.heap.size + 1) := ⟨_, hid rfl⟩
  rw [← HB1.out] at HP1 ⊢
  have hne : B1 ≠ w.heap.size := by rw [HB1.out]; omega
  obtain ⟨p0, p1, p2, p3⟩ := pred_cells HP0.out
  obtain ⟨u0, u1, u2, u3⟩ := pred_cells HP1.out
  have uf2 := pred_frozen HP1.out 2
  have uf3 := pred_frozen HP1.out 3
  simp only at p0 p1 p2 p3 u0 u1 u2 u3
  have hl0 := hid (lt_of_block HP0.out)
  have hl1 := hid (lt_of_block HP1.out)
  cases z with
  | false =>
    go_region_with (
      go_at_call 49
      refine (name_any a false _ (HT.out.below (below_drew' HB2.out)) HM.out HZ).mono ?_
      rintro e w2 ⟨rfl, hb⟩
      have HB3 := hid ((below_drew' HB2.out).trans (hb.mono HB2.out.size))
      have d0 : w2.cell? ⟨w.heap.size, 0, none⟩ = some (.int .i64 3) := (hb.cell (p := ⟨w.heap.size, 0, none⟩) hl0.out).trans p0
      have d1 : w2.cell? ⟨w.heap.size, 1, none⟩ = some (.int .i64 n) := (hb.cell (p := ⟨w.heap.size, 1, none⟩) hl0.out).trans p1
      have d2 : w2.cell? ⟨w.heap.size, 2, none⟩ = some (.string a) := (hb.cell (p := ⟨w.heap.size, 2, none⟩) hl0.out).trans p2
      have d3 : w2.cell? ⟨w.heap.size, 3, none⟩ = some (.string c) := (hb.cell (p := ⟨w.heap.size, 3, none⟩) hl0.out).trans p3
      have e0 : w2.cell? ⟨B1, 0, none⟩ = some (.int .i64 3) := (hb.cell (p := ⟨B1, 0, none⟩) hl1.out).trans u0
      have e1 : w2.cell? ⟨B1, 1, none⟩ = some (.int .i64 0) := (hb.cell (p := ⟨B1, 1, none⟩) hl1.out).trans u1
      have e2 : w2.cell? ⟨B1, 2, none⟩ = some (.string L.noB) := (hb.cell (p := ⟨B1, 2, none⟩) hl1.out).trans u2
      have e3 : w2.cell? ⟨B1, 3, none⟩ = some (.string L.noB) := (hb.cell (p := ⟨B1, 3, none⟩) hl1.out).trans u3
      have ef2 : w2.frozen? ⟨B1, 2, none⟩ = false := (hb.frozen (p := ⟨B1, 2, none⟩) hl1.out).trans uf2
      have ef3 : w2.frozen? ⟨B1, 3, none⟩ = false := (hb.frozen (p := ⟨B1, 3, none⟩) hl1.out).trans uf3
      have hnoB : L.noB.toList = [] := by rw [ByteArray.toList_eq]; rfl
      clear hb)
    all_goals
      go_wp2
      go_ret
      refine ⟨ret_bool (by simp [Q.noneB, *]), ?_⟩
      exact HB3.out.setCell (p := ⟨B1, 2, none⟩) (by rw [HB1.out]; exact Nat.le_succ _) _
  | true =>
    by_cases hn : n = 0
    · subst hn
      by_cases hc : c.toList = []
      · go_region_with (
          go_at_call 49
          refine (name_any a true _ (HT.out.below (below_drew' HB2.out)) HM.out HZ).mono ?_
          rintro e w2 ⟨rfl, hb⟩
          have HB3 := hid ((below_drew' HB2.out).trans (hb.mono HB2.out.size))
          have d0 : w2.cell? ⟨w.heap.size, 0, none⟩ = some (.int .i64 3) := (hb.cell (p := ⟨w.heap.size, 0, none⟩) hl0.out).trans p0
          have d1 : w2.cell? ⟨w.heap.size, 1, none⟩ = some (.int .i64 0) := (hb.cell (p := ⟨w.heap.size, 1, none⟩) hl0.out).trans p1
          have d2 : w2.cell? ⟨w.heap.size, 2, none⟩ = some (.string a) := (hb.cell (p := ⟨w.heap.size, 2, none⟩) hl0.out).trans p2
          have d3 : w2.cell? ⟨w.heap.size, 3, none⟩ = some (.string c) := (hb.cell (p := ⟨w.heap.size, 3, none⟩) hl0.out).trans p3
          have e0 : w2.cell? ⟨B1, 0, none⟩ = some (.int .i64 3) := (hb.cell (p := ⟨B1, 0, none⟩) hl1.out).trans u0
          have e1 : w2.cell? ⟨B1, 1, none⟩ = some (.int .i64 0) := (hb.cell (p := ⟨B1, 1, none⟩) hl1.out).trans u1
          have e2 : w2.cell? ⟨B1, 2, none⟩ = some (.string L.noB) := (hb.cell (p := ⟨B1, 2, none⟩) hl1.out).trans u2
          have e3 : w2.cell? ⟨B1, 3, none⟩ = some (.string L.noB) := (hb.cell (p := ⟨B1, 3, none⟩) hl1.out).trans u3
          have ef2 : w2.frozen? ⟨B1, 2, none⟩ = false := (hb.frozen (p := ⟨B1, 2, none⟩) hl1.out).trans uf2
          have ef3 : w2.frozen? ⟨B1, 3, none⟩ = false := (hb.frozen (p := ⟨B1, 3, none⟩) hl1.out).trans uf3
          have hnoB : L.noB.toList = [] := by rw [ByteArray.toList_eq]; rfl
          clear hb)
        all_goals
          go_wp2
          go_ret
          refine ⟨ret_bool (by simp [Q.noneB, *]), ?_⟩
          exact HB3.out.setCell (p := ⟨B1, 2, none⟩) (by rw [HB1.out]; exact Nat.le_succ _) _
      · go_region_with (
          go_at_call 49
          refine (name_any a true _ (HT.out.below (below_drew' HB2.out)) HM.out HZ).mono ?_
          rintro e w2 ⟨rfl, hb⟩
          have HB3 := hid ((below_drew' HB2.out).trans (hb.mono HB2.out.size))
          have d0 : w2.cell? ⟨w.heap.size, 0, none⟩ = some (.int .i64 3) := (hb.cell (p := ⟨w.heap.size, 0, none⟩) hl0.out).trans p0
          have d1 : w2.cell? ⟨w.heap.size, 1, none⟩ = some (.int .i64 0) := (hb.cell (p := ⟨w.heap.size, 1, none⟩) hl0.out).trans p1
          have d2 : w2.cell? ⟨w.heap.size, 2, none⟩ = some (.string a) := (hb.cell (p := ⟨w.heap.size, 2, none⟩) hl0.out).trans p2
          have d3 : w2.cell? ⟨w.heap.size, 3, none⟩ = some (.string c) := (hb.cell (p := ⟨w.heap.size, 3, none⟩) hl0.out).trans p3
          have e0 : w2.cell? ⟨B1, 0, none⟩ = some (.int .i64 3) := (hb.cell (p := ⟨B1, 0, none⟩) hl1.out).trans u0
          have e1 : w2.cell? ⟨B1, 1, none⟩ = some (.int .i64 0) := (hb.cell (p := ⟨B1, 1, none⟩) hl1.out).trans u1
          have e2 : w2.cell? ⟨B1, 2, none⟩ = some (.string L.noB) := (hb.cell (p := ⟨B1, 2, none⟩) hl1.out).trans u2
          have e3 : w2.cell? ⟨B1, 3, none⟩ = some (.string L.noB) := (hb.cell (p := ⟨B1, 3, none⟩) hl1.out).trans u3
          have ef2 : w2.frozen? ⟨B1, 2, none⟩ = false := (hb.frozen (p := ⟨B1, 2, none⟩) hl1.out).trans uf2
          have ef3 : w2.frozen? ⟨B1, 3, none⟩ = false := (hb.frozen (p := ⟨B1, 3, none⟩) hl1.out).trans uf3
          have hnoB : L.noB.toList = [] := by rw [ByteArray.toList_eq]; rfl
          clear hb)
        all_goals
          go_wp2
          go_ret
          refine ⟨ret_bool (by simp [Q.noneB, *]), ?_⟩
          exact HB3.out.setCell (p := ⟨B1, 2, none⟩) (by rw [HB1.out]; exact Nat.le_succ _) _
    · go_region_with (
        go_at_call 49
        refine (name_any a true _ (HT.out.below (below_drew' HB2.out)) HM.out HZ).mono ?_
        rintro e w2 ⟨rfl, hb⟩
        have HB3 := hid ((below_drew' HB2.out).trans (hb.mono HB2.out.size))
        have d0 : w2.cell? ⟨w.heap.size, 0, none⟩ = some (.int .i64 3) := (hb.cell (p := ⟨w.heap.size, 0, none⟩) hl0.out).trans p0
        have d1 : w2.cell? ⟨w.heap.size, 1, none⟩ = some (.int .i64 n) := (hb.cell (p := ⟨w.heap.size, 1, none⟩) hl0.out).trans p1
        have d2 : w2.cell? ⟨w.heap.size, 2, none⟩ = some (.string a) := (hb.cell (p := ⟨w.heap.size, 2, none⟩) hl0.out).trans p2
        have d3 : w2.cell? ⟨w.heap.size, 3, none⟩ = some (.string c) := (hb.cell (p := ⟨w.heap.size, 3, none⟩) hl0.out).trans p3
        have e0 : w2.cell? ⟨B1, 0, none⟩ = some (.int .i64 3) := (hb.cell (p := ⟨B1, 0, none⟩) hl1.out).trans u0
        have e1 : w2.cell? ⟨B1, 1, none⟩ = some (.int .i64 0) := (hb.cell (p := ⟨B1, 1, none⟩) hl1.out).trans u1
        have e2 : w2.cell? ⟨B1, 2, none⟩ = some (.string L.noB) := (hb.cell (p := ⟨B1, 2, none⟩) hl1.out).trans u2
        have e3 : w2.cell? ⟨B1, 3, none⟩ = some (.string L.noB) := (hb.cell (p := ⟨B1, 3, none⟩) hl1.out).trans u3
        have ef2 : w2.frozen? ⟨B1, 2, none⟩ = false := (hb.frozen (p := ⟨B1, 2, none⟩) hl1.out).trans uf2
        have ef3 : w2.frozen? ⟨B1, 3, none⟩ = false := (hb.frozen (p := ⟨B1, 3, none⟩) hl1.out).trans uf3
        have hnoB : L.noB.toList = [] := by rw [ByteArray.toList_eq]; rfl
        clear hb)
      all_goals
        go_wp2
        go_ret
        refine ⟨ret_bool (by simp [Q.noneB, *]), ?_⟩
        exact HB3.out.setCell (p := ⟨B1, 2, none⟩) (by rw [HB1.out]; exact Nat.le_succ _) _
set_option maxRecDepth 100000 in
set_option maxHeartbeats 4000000 in
theorem rpred_five (n : Int) (a c : ByteArray) (zc : Int) (w : World) (ht : Tab w) (hm : c.size ≤ maxLen) (HZ : Hid (G.countZ c.data.toList = zc)) :
    Calls Tryd.prog 124 #[predV ⟨5, n, a, c⟩] w fun e w' => e = .returned (.bool (decide (0 ≤ zc) && (decide (n = 0) && Q.noneB a))) ∧ Below w.heap.size w w' := by
  have HT := hid ht
  clear ht
  have HM := hid hm
  clear hm
  have hb2 := below_two w (predObj ⟨5, n, a, c⟩) (predObj ⟨5, 0, L.noB, L.noB⟩) 0
  have P0 : (((w.alloc (predObj ⟨5, n, a, c⟩)).alloc (predObj ⟨5, 0, L.noB, L.noB⟩))).heap[w.heap.size]? = some (predObj ⟨5, n, a, c⟩) := (heap_alloc_old _ _ (by simp)).trans (heap_alloc_new w _)
  have P1 : (((w.alloc (predObj ⟨5, n, a, c⟩)).alloc (predObj ⟨5, 0, L.noB, L.noB⟩))).heap[w.heap.size + 1]? = some (predObj ⟨5, 0, L.noB, L.noB⟩) := by
    have := heap_alloc_new (w.alloc (predObj ⟨5, n, a, c⟩)) (predObj ⟨5, 0, L.noB, L.noB⟩)
    simpa using this
  unfold predV
  go_enter Tryd.func124, Tryd.ntmps124
  go_wp2
  have HB2 : Hid (Below w.heap.size w ((w.alloc (predObj ⟨5, n, a, c⟩)).alloc (predObj ⟨5, 0, L.noB, L.noB⟩))) := hid hb2
  have HP0 := hid P0
  have HP1 := hid P1
  clear hb2 P0 P1
  show Code.wp _ _ _ _ ((w.alloc (predObj ⟨5, n, a, c⟩)).alloc (predObj ⟨5, 0, L.noB, L.noB⟩))
  generalize ((w.alloc (predObj ⟨5, n, a, c⟩)).alloc (predObj ⟨5, 0, L.noB, L.noB⟩)) = W1 at *
  obtain ⟨B1, HB1⟩ : ∃ B1, Hid (B1 = w.heap.size + 1) := ⟨_, hid rfl⟩
  rw [← HB1.out] at HP1 ⊢
  have hne : B1 ≠ w.heap.size := by rw [HB1.out]; omega
  obtain ⟨p0, p1, p2, p3⟩ := pred_cells HP0.out
  obtain ⟨u0, u1, u2, u3⟩ := pred_cells HP1.out
  have uf2 := pred_frozen HP1.out 2
  have uf3 := pred_frozen HP1.out 3
  simp only at p0 p1 p2 p3 u0 u1 u2 u3
  have hl0 := hid (lt_of_block HP0.out)
  have hl1 := hid (lt_of_block HP1.out)
  by_cases hz : 0 ≤ zc
  · by_cases hn : n = 0
    · subst hn
      by_cases hc : a.toList = []
      · go_region_with (
          go_at_call 82
          refine (count_any c zc _ (HT.out.below (below_drew' HB2.out)) HM.out HZ).mono ?_
          rintro e w2 ⟨rfl, hb⟩
          have HB3 := hid ((below_drew' HB2.out).trans (hb.mono HB2.out.size))
          have d0 : w2.cell? ⟨w.heap.size, 0, none⟩ = some (.int .i64 5) := (hb.cell (p := ⟨w.heap.size, 0, none⟩) hl0.out).trans p0
          have d1 : w2.cell? ⟨w.heap.size, 1, none⟩ = some (.int .i64 0) := (hb.cell (p := ⟨w.heap.size, 1, none⟩) hl0.out).trans p1
          have d2 : w2.cell? ⟨w.heap.size, 2, none⟩ = some (.string a) := (hb.cell (p := ⟨w.heap.size, 2, none⟩) hl0.out).trans p2
          have d3 : w2.cell? ⟨w.heap.size, 3, none⟩ = some (.string c) := (hb.cell (p := ⟨w.heap.size, 3, none⟩) hl0.out).trans p3
          have e0 : w2.cell? ⟨B1, 0, none⟩ = some (.int .i64 5) := (hb.cell (p := ⟨B1, 0, none⟩) hl1.out).trans u0
          have e1 : w2.cell? ⟨B1, 1, none⟩ = some (.int .i64 0) := (hb.cell (p := ⟨B1, 1, none⟩) hl1.out).trans u1
          have e2 : w2.cell? ⟨B1, 2, none⟩ = some (.string L.noB) := (hb.cell (p := ⟨B1, 2, none⟩) hl1.out).trans u2
          have e3 : w2.cell? ⟨B1, 3, none⟩ = some (.string L.noB) := (hb.cell (p := ⟨B1, 3, none⟩) hl1.out).trans u3
          have ef2 : w2.frozen? ⟨B1, 2, none⟩ = false := (hb.frozen (p := ⟨B1, 2, none⟩) hl1.out).trans uf2
          have ef3 : w2.frozen? ⟨B1, 3, none⟩ = false := (hb.frozen (p := ⟨B1, 3, none⟩) hl1.out).trans uf3
          have hnoB : L.noB.toList = [] := by rw [ByteArray.toList_eq]; rfl
          clear hb)
        all_goals
          go_wp2
          go_ret
          refine ⟨ret_bool (by simp [Q.noneB, *]), ?_⟩
          exact HB3.out.setCell (p := ⟨B1, 3, none⟩) (by rw [HB1.out]; exact Nat.le_succ _) _
      · go_region_with (
          go_at_call 82
          refine (count_any c zc _ (HT.out.below (below_drew' HB2.out)) HM.out HZ).mono ?_
          rintro e w2 ⟨rfl, hb⟩
          have HB3 := hid ((below_drew' HB2.out).trans (hb.mono HB2.out.size))
          have d0 : w2.cell? ⟨w.heap.size, 0, none⟩ = some (.int .i64 5) := (hb.cell (p := ⟨w.heap.size, 0, none⟩) hl0.out).trans p0
          have d1 : w2.cell? ⟨w.heap.size, 1, none⟩ = some (.int .i64 0) := (hb.cell (p := ⟨w.heap.size, 1, none⟩) hl0.out).trans p1
          have d2 : w2.cell? ⟨w.heap.size, 2, none⟩ = some (.string a) := (hb.cell (p := ⟨w.heap.size, 2, none⟩) hl0.out).trans p2
          have d3 : w2.cell? ⟨w.heap.size, 3, none⟩ = some (.string c) := (hb.cell (p := ⟨w.heap.size, 3, none⟩) hl0.out).trans p3
          have e0 : w2.cell? ⟨B1, 0, none⟩ = some (.int .i64 5) := (hb.cell (p := ⟨B1, 0, none⟩) hl1.out).trans u0
          have e1 : w2.cell? ⟨B1, 1, none⟩ = some (.int .i64 0) := (hb.cell (p := ⟨B1, 1, none⟩) hl1.out).trans u1
          have e2 : w2.cell? ⟨B1, 2, none⟩ = some (.string L.noB) := (hb.cell (p := ⟨B1, 2, none⟩) hl1.out).trans u2
          have e3 : w2.cell? ⟨B1, 3, none⟩ = some (.string L.noB) := (hb.cell (p := ⟨B1, 3, none⟩) hl1.out).trans u3
          have ef2 : w2.frozen? ⟨B1, 2, none⟩ = false := (hb.frozen (p := ⟨B1, 2, none⟩) hl1.out).trans uf2
          have ef3 : w2.frozen? ⟨B1, 3, none⟩ = false := (hb.frozen (p := ⟨B1, 3, none⟩) hl1.out).trans uf3
          have hnoB : L.noB.toList = [] := by rw [ByteArray.toList_eq]; rfl
          clear hb)
        all_goals
          go_wp2
          go_ret
          refine ⟨ret_bool (by simp [Q.noneB, *]), ?_⟩
          exact HB3.out.setCell (p := ⟨B1, 3, none⟩) (by rw [HB1.out]; exact Nat.le_succ _) _
    · go_region_with (
        go_at_call 82
        refine (count_any c zc _ (HT.out.below (below_drew' HB2.out)) HM.out HZ).mono ?_
        rintro e w2 ⟨rfl, hb⟩
        have HB3 := hid ((below_drew' HB2.out).trans (hb.mono HB2.out.size))
        have d0 : w2.cell? ⟨w.heap.size, 0, none⟩ = some (.int .i64 5) := (hb.cell (p := ⟨w.heap.size, 0, none⟩) hl0.out).trans p0
        have d1 : w2.cell? ⟨w.heap.size, 1, none⟩ = some (.int .i64 n) := (hb.cell (p := ⟨w.heap.size, 1, none⟩) hl0.out).trans p1
        have d2 : w2.cell? ⟨w.heap.size, 2, none⟩ = some (.string a) := (hb.cell (p := ⟨w.heap.size, 2, none⟩) hl0.out).trans p2
        have d3 : w2.cell? ⟨w.heap.size, 3, none⟩ = some (.string c) := (hb.cell (p := ⟨w.heap.size, 3, none⟩) hl0.out).trans p3
        have e0 : w2.cell? ⟨B1, 0, none⟩ = some (.int .i64 5) := (hb.cell (p := ⟨B1, 0, none⟩) hl1.out).trans u0
        have e1 : w2.cell? ⟨B1, 1, none⟩ = some (.int .i64 0) := (hb.cell (p := ⟨B1, 1, none⟩) hl1.out).trans u1
        have e2 : w2.cell? ⟨B1, 2, none⟩ = some (.string L.noB) := (hb.cell (p := ⟨B1, 2, none⟩) hl1.out).trans u2
        have e3 : w2.cell? ⟨B1, 3, none⟩ = some (.string L.noB) := (hb.cell (p := ⟨B1, 3, none⟩) hl1.out).trans u3
        have ef2 : w2.frozen? ⟨B1, 2, none⟩ = false := (hb.frozen (p := ⟨B1, 2, none⟩) hl1.out).trans uf2
        have ef3 : w2.frozen? ⟨B1, 3, none⟩ = false := (hb.frozen (p := ⟨B1, 3, none⟩) hl1.out).trans uf3
        have hnoB : L.noB.toList = [] := by rw [ByteArray.toList_eq]; rfl
        clear hb)
      all_goals
        go_wp2
        go_ret
        refine ⟨ret_bool (by simp [Q.noneB, *]), ?_⟩
        exact HB3.out.setCell (p := ⟨B1, 3, none⟩) (by rw [HB1.out]; exact Nat.le_succ _) _
  · have hz' : decide (0 ≤ zc) = false := decide_eq_false hz
    go_region_with (
      go_at_call 82
      refine (count_any c zc _ (HT.out.below (below_drew' HB2.out)) HM.out HZ).mono ?_
      rintro e w2 ⟨rfl, hb⟩
      have HB3 := hid ((below_drew' HB2.out).trans (hb.mono HB2.out.size))
      have d0 : w2.cell? ⟨w.heap.size, 0, none⟩ = some (.int .i64 5) := (hb.cell (p := ⟨w.heap.size, 0, none⟩) hl0.out).trans p0
      have d1 : w2.cell? ⟨w.heap.size, 1, none⟩ = some (.int .i64 n) := (hb.cell (p := ⟨w.heap.size, 1, none⟩) hl0.out).trans p1
      have d2 : w2.cell? ⟨w.heap.size, 2, none⟩ = some (.string a) := (hb.cell (p := ⟨w.heap.size, 2, none⟩) hl0.out).trans p2
      have d3 : w2.cell? ⟨w.heap.size, 3, none⟩ = some (.string c) := (hb.cell (p := ⟨w.heap.size, 3, none⟩) hl0.out).trans p3
      have e0 : w2.cell? ⟨B1, 0, none⟩ = some (.int .i64 5) := (hb.cell (p := ⟨B1, 0, none⟩) hl1.out).trans u0
      have e1 : w2.cell? ⟨B1, 1, none⟩ = some (.int .i64 0) := (hb.cell (p := ⟨B1, 1, none⟩) hl1.out).trans u1
      have e2 : w2.cell? ⟨B1, 2, none⟩ = some (.string L.noB) := (hb.cell (p := ⟨B1, 2, none⟩) hl1.out).trans u2
      have e3 : w2.cell? ⟨B1, 3, none⟩ = some (.string L.noB) := (hb.cell (p := ⟨B1, 3, none⟩) hl1.out).trans u3
      have ef2 : w2.frozen? ⟨B1, 2, none⟩ = false := (hb.frozen (p := ⟨B1, 2, none⟩) hl1.out).trans uf2
      have ef3 : w2.frozen? ⟨B1, 3, none⟩ = false := (hb.frozen (p := ⟨B1, 3, none⟩) hl1.out).trans uf3
      have hnoB : L.noB.toList = [] := by rw [ByteArray.toList_eq]; rfl
      clear hb)
    all_goals
      go_wp2
      go_ret
      refine ⟨ret_bool (by simp [Q.noneB, *]), ?_⟩
      exact HB3.out.setCell (p := ⟨B1, 3, none⟩) (by rw [HB1.out]; exact Nat.le_succ _) _
end Go.Proofs.YtmgemdhpjibdiaaDoor
