/- The walks of pathq's equals and inside: a predicate as it is written. -/
import Derived.Test.YtmgemdhpjibdiaaDoorQRp
namespace Go.Proofs.YtmgemdhpjibdiaaDoor
open Go.RowKit Go.Shelf Go.Sort
set_option maxRecDepth 100000 in
set_option maxHeartbeats 8000000 in
theorem rpred_four (n : Int) (a c : ByteArray) (z : Bool) (zc : Int) (w : World) (ht : Tab w) (hm : a.size ≤ maxLen) (hmc : c.size ≤ maxLen) (HZ : Hid (G.nameB a.data.toList = z)) (HC : Hid (G.countZ c.data.toList = zc)) :
    Calls Tryd.prog 124 #[predV ⟨4, n, a, c⟩] w fun e w' => e = .returned (.bool ((z && decide (0 ≤ zc)) && decide (n = 0))) ∧ Below w.heap.size w w' := by
  have HT := hid ht
  clear ht
  have HM := hid hm
  have HMC := hid hmc
  clear hm hmc
  have HX : Hid (Below w.heap.size w ((w.alloc (predObj ⟨4, n, a, c⟩)).alloc (predObj ⟨4, 0, a, c⟩)).drew) := hid (below_two w _ _ 1)
  have HP0 : Hid (((w.alloc (predObj ⟨4, n, a, c⟩)).alloc (predObj ⟨4, 0, a, c⟩)).drew.heap[w.heap.size]? = some (predObj ⟨4, n, a, c⟩)) := hid ((heap_alloc_old _ _ (by simp)).trans (heap_alloc_new w _))
  have HP1 : Hid (((w.alloc (predObj ⟨4, n, a, c⟩)).alloc (predObj ⟨4, 0, a, c⟩)).drew.heap[w.heap.size + 1]? = some (predObj ⟨4, 0, a, c⟩)) := hid (by
    have := heap_alloc_new (w.alloc (predObj ⟨4, n, a, c⟩)) (predObj ⟨4, 0, a, c⟩)
    rw [show (w.alloc (predObj ⟨4, n, a, c⟩)).heap.size = w.heap.size + 1 by simp] at this
    exact this)
  unfold predV
  go_enter Tryd.func124, Tryd.ntmps124
  go_wp2
  go_region
  all_goals
    go_wp2_with fail
    refine (name_any a z _ (HT.out.below HX.out) HM.out HZ).mono ?_
    rintro e w2 ⟨rfl, hb⟩
    have P0 := hid ((hb.block _ (lt_of_block HP0.out)).trans HP0.out)
    have P1 := hid ((hb.block _ (lt_of_block HP1.out)).trans HP1.out)
    have HB := hid (HX.out.trans (hb.mono HX.out.size))
    clear hb HP0 HP1 HX
    cases z with
    | false =>
      go_wp2
      go_ret
      exact ⟨rfl, HB.out⟩
    | true =>
      obtain ⟨_, _, _, d3⟩ := pred_cells P0.out
      go_wp2_with fail
      refine (count_any c zc _ (HT.out.below HB.out) HMC.out HC).mono ?_
      rintro e w3 ⟨rfl, hb⟩
      have P2 := (hb.block _ (lt_of_block P0.out)).trans P0.out
      have P3 := (hb.block _ (lt_of_block P1.out)).trans P1.out
      have HB3 := hid (HB.out.trans (hb.mono HB.out.size))
      obtain ⟨d0, d1, d2, d3⟩ := pred_cells P2
      obtain ⟨e0, e1, e2, e3⟩ := pred_cells P3
      clear hb P0 P1 P2 P3 HB
      by_cases hz : 0 ≤ zc
      · by_cases hn : n = 0
        · subst hn
          go_wp2
          go_ret
          exact ⟨ret_bool (by simp [*]), HB3.out⟩
        · go_wp2
          go_ret
          exact ⟨ret_bool (by simp [*]), HB3.out⟩
      · have hz' : decide (0 ≤ zc) = false := decide_eq_false hz
        go_wp2
        go_ret
        exact ⟨ret_bool (by simp [*]), HB3.out⟩
/-- rightPred tells whether a predicate may be. -/
theorem rpred_any (p : Q.Pred) (w : World) (ht : Tab w) (hm : p.name.size ≤ maxLen) (hmc : p.value.size ≤ maxLen) (r : Bool) (HR : Hid (Q.rightPB p = r)) :
    Calls Tryd.prog 124 #[predV p] w fun e w' => e = .returned (.bool r) ∧ Below w.heap.size w w' := by
  have hr := HR.out
  subst hr
  obtain ⟨kd, n, a, c⟩ := p
  by_cases h1 : kd = 1
  · subst h1
    exact rpred_one n a c w
  · by_cases h2 : kd = 2
    · subst h2
      exact rpred_two n a c w
    · by_cases h3 : kd = 3
      · subst h3
        exact rpred_three n a c _ w ht hm (hid rfl)
      · by_cases h4 : kd = 4
        · subst h4
          exact rpred_four n a c _ _ w ht hm hmc (hid rfl) (hid rfl)
        · by_cases h5 : kd = 5
          · subst h5
            exact rpred_five n a c _ w ht hmc (hid rfl)
          · exact rpred_other ⟨kd, n, a, c⟩ w h1 h2 h3 h4 h5
end Go.Proofs.YtmgemdhpjibdiaaDoor
namespace Go.Proofs.YtmgemdhpjibdiaaDoor
open Go.RowKit Go.Shelf Go.Sort
/-- Predicates lie in memory. -/
def PredsIn (v : Value) (l : List Q.Pred) (w : World) : Prop :=
  ∃ ao cap, v = .slice ao l.length cap ∧ l.length ≤ 9223372036854775807 ∧ (l ≠ [] → ∃ g o, ao = some ⟨g, o, none⟩ ∧ g < w.heap.size ∧ ∀ j (h : j < l.length), w.cell? ⟨g, o + j * 4, none⟩ = some (.int .i64 l[j].kind) ∧ w.cell? ⟨g, o + j * 4 + 1, none⟩ = some (.int .i64 l[j].num) ∧ w.cell? ⟨g, o + j * 4 + 2, none⟩ = some (.string l[j].name) ∧ w.cell? ⟨g, o + j * 4 + 3, none⟩ = some (.string l[j].value))
/-- Steps lie in memory. -/
def StepsIn (V : Value) (l : List SV) (w : World) : Prop :=
  (∃ ao cap, V = .slice ao l.length cap ∧ l.length ≤ 9223372036854775807 ∧ (l ≠ [] → ∃ g o, ao = some ⟨g, o, none⟩ ∧ g < w.heap.size ∧ ∀ j (h : j < l.length), w.cell? ⟨g, o + j * 4, none⟩ = some (.int .i64 l[j].1.axis) ∧ w.cell? ⟨g, o + j * 4 + 1, none⟩ = some (.int .i64 l[j].1.test) ∧ w.cell? ⟨g, o + j * 4 + 2, none⟩ = some (.string l[j].1.name) ∧ w.cell? ⟨g, o + j * 4 + 3, none⟩ = some l[j].2)) ∧
  ∀ x ∈ l, PredsIn x.2 x.1.preds w
theorem PredsIn.below {v : Value} {l : List Q.Pred} {w w' : World} (h : PredsIn v l w) (hb : Below w.heap.size w w') : PredsIn v l w' := by
  obtain ⟨ao, cap, h1, h2, h3⟩ := h
  refine ⟨ao, cap, h1, h2, fun hl => ?_⟩
  obtain ⟨g, o, h4, h5, h6⟩ := h3 hl
  refine ⟨g, o, h4, Nat.lt_of_lt_of_le h5 hb.size, fun j hj => ?_⟩
  obtain ⟨k0, k1, k2, k3⟩ := h6 j hj
  exact ⟨(hb.cell (p := ⟨g, o + j * 4, none⟩) h5).trans k0, (hb.cell (p := ⟨g, o + j * 4 + 1, none⟩) h5).trans k1, (hb.cell (p := ⟨g, o + j * 4 + 2, none⟩) h5).trans k2, (hb.cell (p := ⟨g, o + j * 4 + 3, none⟩) h5).trans k3⟩
theorem StepsIn.below {V : Value} {l : List SV} {w w' : World} (h : StepsIn V l w) (hb : Below w.heap.size w w') : StepsIn V l w' := by
  refine ⟨?_, fun x hx => (h.2 x hx).below hb⟩
  obtain ⟨ao, cap, h1, h2, h3⟩ := h.1
  refine ⟨ao, cap, h1, h2, fun hl => ?_⟩
  obtain ⟨g, o, h4, h5, h6⟩ := h3 hl
  refine ⟨g, o, h4, Nat.lt_of_lt_of_le h5 hb.size, fun j hj => ?_⟩
  obtain ⟨k0, k1, k2, k3⟩ := h6 j hj
  exact ⟨(hb.cell (p := ⟨g, o + j * 4, none⟩) h5).trans k0, (hb.cell (p := ⟨g, o + j * 4 + 1, none⟩) h5).trans k1, (hb.cell (p := ⟨g, o + j * 4 + 2, none⟩) h5).trans k2, (hb.cell (p := ⟨g, o + j * 4 + 3, none⟩) h5).trans k3⟩
theorem encPs_length (l : List Q.Pred) : (encPs l).length = l.length * 4 := by
  induction l with
  | nil => rfl
  | cons a l ih => simp only [encPs, List.flatMap_cons, List.length_append, List.length_cons] at *; rw [ih]; simp [encP]; omega
theorem encPs_at : ∀ (l : List Q.Pred) (j : Nat) (hj : j < l.length), (encPs l)[j * 4]? = some (.int .i64 l[j].kind) ∧ (encPs l)[j * 4 + 1]? = some (.int .i64 l[j].num) ∧ (encPs l)[j * 4 + 2]? = some (.string l[j].name) ∧ (encPs l)[j * 4 + 3]? = some (.string l[j].value)
  | a :: l, 0, _ => by simp [encPs, encP]
  | a :: l, j + 1, hj => by
    have := encPs_at l j (by simpa using hj)
    have e1 : (j + 1) * 4 = j * 4 + 1 + 1 + 1 + 1 := by omega
    simp only [encPs, List.flatMap_cons, encP, List.cons_append, List.nil_append, e1] at *
    simpa using this
theorem encS_at : ∀ (l : List SV) (j : Nat) (hj : j < l.length), (encS l)[j * 4]? = some (.int .i64 l[j].1.axis) ∧ (encS l)[j * 4 + 1]? = some (.int .i64 l[j].1.test) ∧ (encS l)[j * 4 + 2]? = some (.string l[j].1.name) ∧ (encS l)[j * 4 + 3]? = some l[j].2
  | a :: l, 0, _ => by simp [encS, encS1]
  | a :: l, j + 1, hj => by
    have := encS_at l j (by simpa using hj)
    have e1 : (j + 1) * 4 = j * 4 + 1 + 1 + 1 + 1 := by omega
    simp only [encS, List.flatMap_cons, encS1, List.cons_append, List.nil_append, e1] at *
    simpa using this
theorem preds_in {base : Nat} {v : Value} {l : List Q.Pred} {w : World} (h : w.ownsRow base 86 4 v l.length (encPs l)) : PredsIn v l w := by
  have h0 := h
  rcases h.2 with ⟨rfl, h1⟩ | ⟨g, cap, cur, rfl, hb, hg, h2, h3, _⟩
  · exact ⟨none, 0, by rw [h1], by omega, fun hl => absurd (List.length_eq_zero_iff.1 h1) hl⟩
  · refine ⟨_, _, rfl, by unfold maxLen at h3; omega, fun _ => ⟨g, 0, rfl, lt_of_block hg, fun j hj => ?_⟩⟩
    obtain ⟨e0, e1, e2, e3⟩ := encPs_at l j hj
    have c := fun q hq => World.ownsRow.cellAt h0 q hq
    simp only [Nat.zero_add]
    exact ⟨by rw [c _ (by omega)]; exact e0, by rw [c _ (by omega)]; exact e1, by rw [c _ (by omega)]; exact e2, by rw [c _ (by omega)]; exact e3⟩
theorem steps_in {base : Nat} {V : Value} {l : List SV} {w : World} (h : StepRow base V l w) : StepsIn V l w := by
  refine ⟨?_, fun x hx => preds_in (h.2 x hx)⟩
  have h0 := h.1
  rcases h.1.2 with ⟨rfl, h1⟩ | ⟨g, cap, cur, rfl, hb, hg, h2, h3, _⟩
  · exact ⟨none, 0, by rw [h1], by omega, fun hl => absurd (List.length_eq_zero_iff.1 h1) hl⟩
  · refine ⟨_, _, rfl, by unfold maxLen at h3; omega, fun _ => ⟨g, 0, rfl, lt_of_block hg, fun j hj => ?_⟩⟩
    obtain ⟨e0, e1, e2, e3⟩ := encS_at l j hj
    have c := fun q hq => World.ownsRow.cellAt h0 q hq
    simp only [Nat.zero_add]
    exact ⟨by rw [c _ (by omega)]; exact e0, by rw [c _ (by omega)]; exact e1, by rw [c _ (by omega)]; exact e2, by rw [c _ (by omega)]; exact e3⟩
/-- The texts of a step are such as lie in memory. -/
def FitS (B : Nat) (s : Q.Step) : Prop := s.name.size ≤ B ∧ ∀ p ∈ s.preds, p.name.size ≤ B ∧ p.value.size ≤ B
namespace Q
def nameTB (s : Step) : Bool := if s.test = 1 then L.nameP s.name else noneB s.name
def rightSB (s : Step) : Bool := (decide (1 ≤ s.axis) && decide (s.axis ≤ 8) && decide (1 ≤ s.test) && decide (s.test ≤ 4) && decide (s.preds.length ≤ 5)) && (nameTB s && s.preds.all rightPB)
def rightLB (l : List Step) : Bool := (decide (1 ≤ l.length) && decide (l.length ≤ 20)) && l.all rightSB
theorem rightS_B (s : Step) : rightSB s = true ↔ rightS s := by
  unfold rightSB rightS nameTB
  simp only [Bool.and_eq_true, decide_eq_true_eq, List.all_eq_true, rightP_B]
  by_cases h : s.test = 1
  · rw [if_pos h]
    constructor
    · rintro ⟨⟨⟨⟨⟨a, b⟩, c⟩, d⟩, e⟩, f, g⟩; exact ⟨⟨a, b⟩, Or.inl ⟨h, f⟩, e, g⟩
    · rintro ⟨⟨a, b⟩, c | ⟨c, _⟩, e, g⟩
      · exact ⟨⟨⟨⟨⟨a, b⟩, by omega⟩, by omega⟩, e⟩, c.2, g⟩
      · omega
  · rw [if_neg h, noneB_iff]
    constructor
    · rintro ⟨⟨⟨⟨⟨a, b⟩, c⟩, d⟩, e⟩, f, g⟩; exact ⟨⟨a, b⟩, Or.inr ⟨by omega, f⟩, e, g⟩
    · rintro ⟨⟨a, b⟩, c | ⟨c, c2⟩, e, g⟩
      · exact absurd c.1 h
      · exact ⟨⟨⟨⟨⟨a, b⟩, by omega⟩, by omega⟩, e⟩, c2, g⟩
theorem rightL_B (l : List Step) : rightLB l = true ↔ (1 ≤ l.length ∧ l.length ≤ 20 ∧ ∀ s ∈ l, rightS s) := by
  unfold rightLB
  simp only [Bool.and_eq_true, decide_eq_true_eq, List.all_eq_true, rightS_B, and_assoc]
end Q
end Go.Proofs.YtmgemdhpjibdiaaDoor
namespace Go.Proofs.YtmgemdhpjibdiaaDoor
open Go.RowKit Go.Shelf Go.Sort
theorem all_drop {α : Type} (f : α → Bool) (l : List α) (j : Nat) (h : j < l.length) : (l.drop j).all f = (f l[j] && (l.drop (j + 1)).all f) := by
  rw [List.drop_eq_getElem_cons h]
  rfl
set_option maxRecDepth 100000 in
set_option maxHeartbeats 8000000 in
theorem rstep_any (s : Q.Step) (v : Value) (w : World) (ht : Tab w) (PI : Hid (PredsIn v s.preds w)) (F : Hid (FitS maxLen s)) (r : Bool) (HR : Hid (Q.rightSB s = r)) :
    Calls Tryd.prog 100 #[stepV s v] w fun e w' => e = .returned (.bool r) ∧ Below w.heap.size w w' := by
  have HT := hid ht
  clear ht
  obtain ⟨ao, cap, rfl, hlen, hc⟩ := PI.out
  obtain ⟨ax, te, nm, ps⟩ := s
  simp only at *
  have HC := hid hc
  clear hc
  have hb0 : Hid (Below w.heap.size w (w.alloc (.cells #[.int .i64 ax, .int .i64 te, .string nm, .slice ao ps.length cap] 78))) := hid ((Below.refl _ _).alloc (Nat.le_refl _) _)
  have hr := HR.out
  unfold Q.rightSB at hr
  simp only at hr
  unfold stepV
  by_cases a1 : 1 ≤ ax
  case neg =>
    have a1' : ax < 1 := by omega
    obtain rfl : r = false := by rw [← hr]; simp [a1]
    clear hr HR
    go_enter Tryd.func100, Tryd.ntmps100
    go_wp2
    go_ret
    exact ⟨rfl, hb0.out⟩
  case pos =>
  have a1' : ¬ ax < 1 := by omega
  by_cases a2 : ax ≤ 8
  case neg =>
    have a2' : 8 < ax := by omega
    obtain rfl : r = false := by rw [← hr]; simp [a2]
    clear hr HR
    go_enter Tryd.func100, Tryd.ntmps100
    go_wp2
    go_ret
    exact ⟨rfl, hb0.out⟩
  case pos =>
  have a2' : ¬ 8 < ax := by omega
  by_cases t1 : 1 ≤ te
  case neg =>
    have t1' : te < 1 := by omega
    obtain rfl : r = false := by rw [← hr]; simp [t1]
    clear hr HR
    go_enter Tryd.func100, Tryd.ntmps100
    go_wp2
    go_ret
    exact ⟨rfl, hb0.out⟩
  case pos =>
  have t1' : ¬ te < 1 := by omega
  by_cases t2 : te ≤ 4
  case neg =>
    have t2' : 4 < te := by omega
    obtain rfl : r = false := by rw [← hr]; simp [t2]
    clear hr HR
    go_enter Tryd.func100, Tryd.ntmps100
    go_wp2
    go_ret
    exact ⟨rfl, hb0.out⟩
  case pos =>
  have t2' : ¬ 4 < te := by omega
  by_cases p5 : ps.length ≤ 5
  case neg =>
    have p5' : (5 : Int) < (ps.length : Int) := by omega
    obtain rfl : r = false := by rw [← hr]; simp [p5]
    clear hr HR
    go_enter Tryd.func100, Tryd.ntmps100
    go_wp2
    go_ret
    exact ⟨rfl, hb0.out⟩
  case pos =>
  have p5' : ¬ (5 : Int) < (ps.length : Int) := by omega
  have HS : Hid ((Q.nameTB ⟨ax, te, nm, ps⟩ && ps.all Q.rightPB) = r) := hid (by rw [← hr]; simp [a1, a2, t1, t2, p5])
  have HB0 : Hid ((w.alloc (.cells #[.int .i64 ax, .int .i64 te, .string nm, .slice ao ps.length cap] 78)).heap[w.heap.size]? = some (stepObj ax te nm (.slice ao ps.length cap))) := hid (heap_alloc_new w _)
  clear hr HR
  -- what stands behind the name's test: the walk over the predicates
  have loop : ∀ (W : World), Below w.heap.size w W → True := fun _ _ => trivial
  clear loop
  by_cases h1 : te = 1
  · subst h1
    cases hz : L.nameP nm with
    | false =>
      obtain rfl : r = false := by rw [← HS.out]; unfold Q.nameTB; rw [if_pos rfl, hz]; rfl
      clear HS
      go_enter Tryd.func100, Tryd.ntmps100
      go_wp2_with fail
      refine (name_any nm false _ (HT.out.below hb0.out) F.out.1 (hid hz)).mono ?_
      rintro e w2 ⟨rfl, hb⟩
      have HB := hid (hb0.out.trans (hb.mono hb0.out.size))
      clear hb
      go_wp2
      go_ret
      exact ⟨rfl, HB.out⟩
    | true =>
      have HA : Hid ((ps.drop 0).all Q.rightPB = r) := hid (by rw [← HS.out]; unfold Q.nameTB; rw [if_pos rfl, hz]; simp)
      have HZ := hid hz
      clear hz HS
      go_enter Tryd.func100, Tryd.ntmps100
      go_wp2_with fail
      refine (name_any nm true _ (HT.out.below hb0.out) F.out.1 HZ).mono ?_
      rintro e w2 ⟨rfl, hb⟩
      have HB := hid (hb0.out.trans (hb.mono hb0.out.size))
      obtain ⟨d0, d1, d2, d3⟩ := step_cells ((hb.block _ (lt_of_block HB0.out)).trans HB0.out)
      clear hb HB0 hb0
      go_wp2
      go_loopw [51] (fun v51 W => ∃ j : Nat, v51 = .int .i64 (j : Int) ∧ j ≤ ps.length ∧ Hid ((ps.drop j).all Q.rightPB = r) ∧ Hid (Below w.heap.size w W)) (fun v51 _ => ps.length - (intOf v51).toNat)
      case atStart => exact ⟨0, rfl, by omega, HA, HB⟩
      case round =>
        clear HA HB d0 d1 d2 d3
        obtain ⟨j, rfl, hj, HA, HB⟩ := hrel
        by_cases hlt : j < ps.length
        · have hlt' : (j : Int) < (ps.length : Int) := by omega
          obtain ⟨g, o, rfl, hg, hcc⟩ := HC.out (by rintro rfl; simp at hlt)
          obtain ⟨k0, k1, k2, k3⟩ := hcc j hlt
          have c0 := (HB.out.cell (p := ⟨g, o + j * 4, none⟩) hg).trans k0
          have c1 := (HB.out.cell (p := ⟨g, o + j * 4 + 1, none⟩) hg).trans k1
          have c2 := (HB.out.cell (p := ⟨g, o + j * 4 + 2, none⟩) hg).trans k2
          have c3 := (HB.out.cell (p := ⟨g, o + j * 4 + 3, none⟩) hg).trans k3
          have hA := HA.out
          rw [all_drop Q.rightPB ps j hlt] at hA
          have hF := F.out.2 _ (List.getElem_mem hlt)
          have HPJ : Hid (ps[j] = ps[j]) := hid rfl
          generalize ps[j] = p at *
          obtain ⟨kd, nn, pn, pv⟩ := p
          simp only at c0 c1 c2 c3 hF
          have HF := hid hF
          clear k0 k1 k2 k3 hcc hF HPJ HA
          cases hq : Q.rightPB ⟨kd, nn, pn, pv⟩ with
          | false =>
            obtain rfl : r = false := by rw [← hA, hq]; rfl
            have HQ := hid hq
            clear hA hq
            go_wp2_with fail
            refine Calls.mono (rpred_any ⟨kd, nn, pn, pv⟩ _ (HT.out.below (HB.out.alloc HB.out.size _)) HF.out.1 HF.out.2 false HQ) ?_
            rintro e w4 ⟨rfl, hb⟩
            have HB2 := hid ((HB.out.alloc HB.out.size (predObj ⟨kd, nn, pn, pv⟩)).trans (hb.mono (HB.out.alloc HB.out.size (predObj ⟨kd, nn, pn, pv⟩)).size))
            clear hb
            go_wp2
            go_ret
            exact ⟨rfl, HB2.out⟩
          | true =>
            have HA2 : Hid ((ps.drop (j + 1)).all Q.rightPB = r) := hid (by rw [← hA, hq]; rfl)
            have HQ := hid hq
            clear hA hq
            go_wp2_with fail
            refine Calls.mono (rpred_any ⟨kd, nn, pn, pv⟩ _ (HT.out.below (HB.out.alloc HB.out.size _)) HF.out.1 HF.out.2 true HQ) ?_
            rintro e w4 ⟨rfl, hb⟩
            have HB2 := hid ((HB.out.alloc HB.out.size (predObj ⟨kd, nn, pn, pv⟩)).trans (hb.mono (HB.out.alloc HB.out.size (predObj ⟨kd, nn, pn, pv⟩)).size))
            clear hb
            go_wp2
            go_roundw
            case rel => exact ⟨j + 1, by go_num, by omega, HA2, HB2⟩
            case measure => (simp [intOf]; try omega)
        · have hlt' : ¬ (j : Int) < (ps.length : Int) := by omega
          have hj2 : j = ps.length := by omega
          obtain rfl : r = true := by rw [← HA.out, List.drop_eq_nil_of_le (by omega)]; rfl
          clear HA
          go_wp2
          go_ret
          exact ⟨rfl, HB.out⟩
  · have h1' : (te == 1) = false := beq_eq_false_iff_ne.2 h1
    obtain ⟨d0, d1, d2, d3⟩ := step_cells HB0.out
    by_cases hn : nm.toList = []
    · have HA : Hid ((ps.drop 0).all Q.rightPB = r) := hid (by rw [← HS.out]; unfold Q.nameTB; rw [if_neg h1]; simp [Q.noneB, hn])
      have HB := hb0
      have hnb : (nm.toList == []) = true := by simp [hn]
      clear HS HB0 hb0
      go_enter Tryd.func100, Tryd.ntmps100
      go_wp2
      go_loopw [51] (fun v51 W => ∃ j : Nat, v51 = .int .i64 (j : Int) ∧ j ≤ ps.length ∧ Hid ((ps.drop j).all Q.rightPB = r) ∧ Hid (Below w.heap.size w W)) (fun v51 _ => ps.length - (intOf v51).toNat)
      case atStart => exact ⟨0, rfl, by omega, HA, HB⟩
      case round =>
        clear HA HB d0 d1 d2 d3
        obtain ⟨j, rfl, hj, HA, HB⟩ := hrel
        by_cases hlt : j < ps.length
        · have hlt' : (j : Int) < (ps.length : Int) := by omega
          obtain ⟨g, o, rfl, hg, hcc⟩ := HC.out (by rintro rfl; simp at hlt)
          obtain ⟨k0, k1, k2, k3⟩ := hcc j hlt
          have c0 := (HB.out.cell (p := ⟨g, o + j * 4, none⟩) hg).trans k0
          have c1 := (HB.out.cell (p := ⟨g, o + j * 4 + 1, none⟩) hg).trans k1
          have c2 := (HB.out.cell (p := ⟨g, o + j * 4 + 2, none⟩) hg).trans k2
          have c3 := (HB.out.cell (p := ⟨g, o + j * 4 + 3, none⟩) hg).trans k3
          have hA := HA.out
          rw [all_drop Q.rightPB ps j hlt] at hA
          have hF := F.out.2 _ (List.getElem_mem hlt)
          have HPJ : Hid (ps[j] = ps[j]) := hid rfl
          generalize ps[j] = p at *
          obtain ⟨kd, nn, pn, pv⟩ := p
          simp only at c0 c1 c2 c3 hF
          have HF := hid hF
          clear k0 k1 k2 k3 hcc hF HPJ HA
          cases hq : Q.rightPB ⟨kd, nn, pn, pv⟩ with
          | false =>
            obtain rfl : r = false := by rw [← hA, hq]; rfl
            have HQ := hid hq
            clear hA hq
            go_wp2_with fail
            refine Calls.mono (rpred_any ⟨kd, nn, pn, pv⟩ _ (HT.out.below (HB.out.alloc HB.out.size _)) HF.out.1 HF.out.2 false HQ) ?_
            rintro e w4 ⟨rfl, hb⟩
            have HB2 := hid ((HB.out.alloc HB.out.size (predObj ⟨kd, nn, pn, pv⟩)).trans (hb.mono (HB.out.alloc HB.out.size (predObj ⟨kd, nn, pn, pv⟩)).size))
            clear hb
            go_wp2
            go_ret
            exact ⟨rfl, HB2.out⟩
          | true =>
            have HA2 : Hid ((ps.drop (j + 1)).all Q.rightPB = r) := hid (by rw [← hA, hq]; rfl)
            have HQ := hid hq
            clear hA hq
            go_wp2_with fail
            refine Calls.mono (rpred_any ⟨kd, nn, pn, pv⟩ _ (HT.out.below (HB.out.alloc HB.out.size _)) HF.out.1 HF.out.2 true HQ) ?_
            rintro e w4 ⟨rfl, hb⟩
            have HB2 := hid ((HB.out.alloc HB.out.size (predObj ⟨kd, nn, pn, pv⟩)).trans (hb.mono (HB.out.alloc HB.out.size (predObj ⟨kd, nn, pn, pv⟩)).size))
            clear hb
            go_wp2
            go_roundw
            case rel => exact ⟨j + 1, by go_num, by omega, HA2, HB2⟩
            case measure => (simp [intOf]; try omega)
        · have hlt' : ¬ (j : Int) < (ps.length : Int) := by omega
          have hj2 : j = ps.length := by omega
          obtain rfl : r = true := by rw [← HA.out, List.drop_eq_nil_of_le (by omega)]; rfl
          clear HA
          go_wp2
          go_ret
          exact ⟨rfl, HB.out⟩
    · obtain rfl : r = false := by rw [← HS.out]; unfold Q.nameTB; rw [if_neg h1]; simp [Q.noneB, hn]
      have hnb : (nm.toList == []) = false := by simp [hn]
      clear HS
      go_enter Tryd.func100, Tryd.ntmps100
      go_wp2
      go_ret
      exact ⟨rfl, hb0.out⟩
end Go.Proofs.YtmgemdhpjibdiaaDoor
namespace Go.Proofs.YtmgemdhpjibdiaaDoor
open Go.RowKit Go.Shelf Go.Sort
set_option maxRecDepth 100000 in
set_option maxHeartbeats 8000000 in
theorem right_any (V : Value) (l : List SV) (w : World) (ht : Tab w) (I : Hid (StepsIn V l w)) (F : Hid (∀ x ∈ l, FitS maxLen x.1)) (r : Bool) (HR : Hid (Q.rightLB (l.map (·.1)) = r)) :
    Calls Tryd.prog 65 #[V] w fun e w' => e = .returned (.bool r) ∧ Below w.heap.size w w' := by
  have HT := hid ht
  clear ht
  obtain ⟨ao, cap, rfl, hlen, hc⟩ := I.out.1
  have HC := hid hc
  clear hc
  have hr := HR.out
  unfold Q.rightLB at hr
  rw [List.length_map] at hr
  by_cases a1 : 1 ≤ l.length
  case neg =>
    have a1' : (l.length : Int) < 1 := by omega
    have a1'' : l.length = 0 := by omega
    obtain rfl : r = false := by rw [← hr]; simp [a1]
    clear hr HR
    go_enter Tryd.func65, Tryd.ntmps65
    go_wp2
    go_ret
    exact ⟨rfl, Below.refl _ _⟩
  case pos =>
  have a1' : ¬ (l.length : Int) < 1 := by omega
  by_cases a2 : l.length ≤ 20
  case neg =>
    have a2' : (20 : Int) < (l.length : Int) := by omega
    obtain rfl : r = false := by rw [← hr]; simp [a2]
    clear hr HR
    go_enter Tryd.func65, Tryd.ntmps65
    go_wp2
    go_ret
    exact ⟨rfl, Below.refl _ _⟩
  case pos =>
  have a2' : ¬ (20 : Int) < (l.length : Int) := by omega
  have HA : Hid ((l.drop 0).all (fun x => Q.rightSB x.1) = r) := hid (by rw [← hr]; simp [a1, a2, List.all_map, Function.comp_def])
  clear hr HR
  have a1'' : l.length ≠ 0 := by omega
  go_enter Tryd.func65, Tryd.ntmps65
  go_wp2
  go_loopw [15] (fun v15 W => ∃ j : Nat, v15 = .int .i64 (j : Int) ∧ j ≤ l.length ∧ Hid ((l.drop j).all (fun x => Q.rightSB x.1) = r) ∧ Hid (Below w.heap.size w W)) (fun v15 _ => l.length - (intOf v15).toNat)
  case atStart => exact ⟨0, rfl, by omega, HA, hid (Below.refl _ _)⟩
  case round =>
    clear HA
    obtain ⟨j, rfl, hj, HA, HB⟩ := hrel
    by_cases hlt : j < l.length
    · have hlt' : (j : Int) < (l.length : Int) := by omega
      obtain ⟨g, o, rfl, hg, hcc⟩ := HC.out (by rintro rfl; simp at hlt)
      obtain ⟨k0, k1, k2, k3⟩ := hcc j hlt
      have c0 := (HB.out.cell (p := ⟨g, o + j * 4, none⟩) hg).trans k0
      have c1 := (HB.out.cell (p := ⟨g, o + j * 4 + 1, none⟩) hg).trans k1
      have c2 := (HB.out.cell (p := ⟨g, o + j * 4 + 2, none⟩) hg).trans k2
      have c3 := (HB.out.cell (p := ⟨g, o + j * 4 + 3, none⟩) hg).trans k3
      have hA := HA.out
      rw [all_drop _ l j hlt] at hA
      have hF := F.out _ (List.getElem_mem hlt)
      have hP := (I.out.2 _ (List.getElem_mem hlt)).below HB.out
      have HPJ : Hid (l[j] = l[j]) := hid rfl
      generalize l[j] = p at *
      obtain ⟨⟨ax, te, nm, ps⟩, v⟩ := p
      simp only at c0 c1 c2 c3 hF hP hA
      have HF := hid hF
      have HP := hid (hP.below ((Below.refl wr.heap.size wr).alloc (Nat.le_refl _) (stepObj ax te nm v)))
      obtain ⟨aoP, capP, rfl, _⟩ := hP
      clear k0 k1 k2 k3 hcc hF HPJ HA
      cases hq : Q.rightSB ⟨ax, te, nm, ps⟩ with
      | false =>
        obtain rfl : r = false := by rw [← hA, hq]; rfl
        have HQ := hid hq
        clear hA hq
        go_wp2_with fail
        refine Calls.mono (rstep_any ⟨ax, te, nm, ps⟩ _ _ (HT.out.below (HB.out.alloc HB.out.size _)) HP HF false HQ) ?_
        rintro e w4 ⟨rfl, hb⟩
        have HB2 := hid ((HB.out.alloc HB.out.size (stepObj ax te nm (.slice aoP ps.length capP))).trans (hb.mono (HB.out.alloc HB.out.size (stepObj ax te nm (.slice aoP ps.length capP))).size))
        clear hb
        go_wp2
        go_ret
        exact ⟨rfl, HB2.out⟩
      | true =>
        have HA2 : Hid ((l.drop (j + 1)).all (fun x => Q.rightSB x.1) = r) := hid (by rw [← hA, hq]; rfl)
        have HQ := hid hq
        clear hA hq
        go_wp2_with fail
        refine Calls.mono (rstep_any ⟨ax, te, nm, ps⟩ _ _ (HT.out.below (HB.out.alloc HB.out.size _)) HP HF true HQ) ?_
        rintro e w4 ⟨rfl, hb⟩
        have HB2 := hid ((HB.out.alloc HB.out.size (stepObj ax te nm (.slice aoP ps.length capP))).trans (hb.mono (HB.out.alloc HB.out.size (stepObj ax te nm (.slice aoP ps.length capP))).size))
        clear hb
        go_wp2
        go_roundw
        case rel => exact ⟨j + 1, by go_num, by omega, HA2, HB2⟩
        case measure => (simp [intOf]; try omega)
    · have hlt' : ¬ (j : Int) < (l.length : Int) := by omega
      obtain rfl : r = true := by rw [← HA.out, List.drop_eq_nil_of_le (by omega)]; rfl
      clear HA
      go_wp2
      go_ret
      exact ⟨rfl, HB.out⟩
end Go.Proofs.YtmgemdhpjibdiaaDoor
namespace Go.Proofs.YtmgemdhpjibdiaaDoor
open Go.RowKit Go.Shelf Go.Sort
theorem dec_digits : ∀ (f n : Nat), n < 10 ^ f → 0 < f → Q.digitsF f n = Lib.decDigits n
  | 0, _, _, h => by omega
  | f + 1, n, h, _ => by
    unfold Q.digitsF
    rw [Lib.decDigits]
    by_cases h1 : n < 10
    · rw [if_pos h1, dif_pos h1]
    · rw [if_neg h1, dif_neg h1]
      have h2 : n / 10 < 10 ^ f := by rw [Nat.pow_succ] at h; omega
      rw [dec_digits f (n / 10) h2 (by cases f with | zero => simp at h2; omega | succ f => omega)]
theorem itoa_digits (n : Int) (h1 : 1 ≤ n) (h2 : n ≤ 9999) : Lib.itoa n = Q.digitsL n := by
  unfold Q.digitsL Lib.itoa
  rw [if_neg (by omega), dec_digits 20 n.toNat (Nat.lt_trans (show n.toNat < 10000 by omega) (by decide)) (by decide)]
theorem digitsL_len (n : Int) (h1 : 1 ≤ n) (h2 : n ≤ 9999) : (Q.digitsL n).length ≤ 4 := by
  unfold Q.digitsL
  exact Q.digits_len 4 20 n.toNat (by decide) (Nat.lt_of_lt_of_le (show n.toNat < 10000 by omega) (by decide)) (by decide)
theorem below_grow2 {B : Nat} {w : World} (h : B ≤ w.heap.size) (k : Nat) (os : Array Obj) : Below B w (Go.Sort.grow (w.drewN k) os) :=
  ⟨rfl, rfl, rfl, by simp [Go.Sort.grow, World.drewN], fun i hi => by
    show (w.heap ++ os)[i]? = _
    rw [Array.getElem?_append, if_pos (by omega)]⟩
set_option maxRecDepth 100000 in
set_option maxHeartbeats 2000000 in
theorem equals_any (v r : ByteArray) (w : World) (ht : Tab w) (hm : v.size ≤ 1048576) (hr : Hid (Q.evQ v = r.data.toList)) (hrs : r.size ≤ 6291456) (is : Bool) (hi : Hid ((E.escL true v.data.toList).isSome = is)) :
    Calls Tryd.prog 103 #[.string v] w fun e w' => e = .returned (.string ((⟨#[61, 34]⟩ ++ r) ++ ⟨#[34]⟩)) ∧ Below w.heap.size w w' := by
  have HT := hid ht
  clear ht
  go_enter Tryd.func103, Tryd.ntmps103
  go_wp2_with fail
  refine (value_any v r is w HT.out (by omega) (hid ⟨hr.out, hi.out⟩)).mono ?_
  rintro e w1 ⟨rfl, hb⟩
  have HB := hid hb
  clear hb
  go_wp2
  go_ret
  exact ⟨rfl, HB.out⟩
theorem ret_str {a b : ByteArray} (h : a.data.toList = b.data.toList) : Ending.returned (.string a) = .returned (.string b) := by rw [L.bytes_one h]
theorem ev_some {v : ByteArray} (h : ¬ G.countZ v.data.toList < 0) : (E.escL true v.data.toList).isSome = true ∧ (Q.evQ v).length ≤ 6 * v.size := by
  obtain ⟨m, hm⟩ := S.esc_some true h
  refine ⟨by rw [hm]; rfl, ?_⟩
  unfold Q.evQ
  rw [hm]
  have := E.escL_len true _ _ hm
  simpa using this
theorem app3 (a b c : ByteArray) : ((a ++ b) ++ c).data.toList = a.data.toList ++ (b.data.toList ++ c.data.toList) := by rw [L.app_list, L.app_list, List.append_assoc]
set_option maxRecDepth 100000 in
set_option maxHeartbeats 4000000 in
theorem inside_any (p : Q.Pred) (hp : Q.rightP p) (w : World) (ht : TabQ w) (hn : p.name.size ≤ 1048576) (hv : p.value.size ≤ 1048576) (s : ByteArray) (HS : Hid (Q.predW p = s.data.toList)) :
    Calls Tryd.prog 67 #[predV p] w fun e w' => e = .returned (.string s) ∧ Below w.heap.size w w' := by
  have HT := hid ht
  clear ht
  have hb0 : Hid (Below w.heap.size w (w.alloc (predObj p))) := hid ((Below.refl _ _).alloc (Nat.le_refl _) _)
  have hs := HS.out
  obtain ⟨kd, n, a, c⟩ := p
  unfold Q.predW at hs
  unfold Q.rightP at hp
  simp only at hs hp hn hv
  unfold predV
  rcases hp with ⟨rfl, h1, h2, rfl, rfl⟩ | ⟨rfl, rfl, rfl, rfl⟩ | ⟨rfl, rfl, hnm, rfl⟩ | ⟨rfl, rfl, hnm, hc⟩ | ⟨rfl, rfl, rfl, hc⟩
  · simp only [if_true] at hs
    have HI : Hid (Lib.itoa n = s.data.toList) := hid ((itoa_digits n h1 h2).trans hs)
    have HX : Hid (TabQ (w.alloc (predObj ⟨1, n, L.noB, L.noB⟩))) := hid (HT.out.below hb0.out)
    clear hs HS
    go_enter Tryd.func67, Tryd.ntmps67
    go_wp2_with fail
    refine Calls.mono (itoa_any n (by omega) (by omega) _ HX.out.pw) ?_
    rintro e w2 ⟨rfl, k, os, rfl⟩
    have HB : Hid (Below w.heap.size w (Go.Sort.grow ((w.alloc (predObj ⟨1, n, L.noB, L.noB⟩)).drewN k) os)) := hid (hb0.out.trans (below_grow2 hb0.out.size k os))
    clear hb0 HX
    go_wp2
    go_ret
    exact ⟨ret_str HI.out, HB.out⟩
  · simp only [show ¬ ((2 : Int) = 1) by decide, if_false, if_true] at hs
    have HI : Hid (Q.lastW = s.data.toList) := hid hs
    clear hs HS
    go_enter Tryd.func67, Tryd.ntmps67
    go_wp2
    go_ret
    exact ⟨ret_str HI.out, hb0.out⟩
  · simp only [show ¬ ((3 : Int) = 1) by decide, show ¬ ((3 : Int) = 2) by decide, if_false, if_true] at hs
    have HI : Hid ((⟨#[64]⟩ ++ a : ByteArray).data.toList = s.data.toList) := hid (by rw [L.app_list]; exact hs)
    clear hs HS
    go_enter Tryd.func67, Tryd.ntmps67
    go_wp2
    go_ret
    exact ⟨ret_str HI.out, hb0.out⟩
  · simp only [show ¬ ((4 : Int) = 1) by decide, show ¬ ((4 : Int) = 2) by decide, show ¬ ((4 : Int) = 3) by decide, if_false, if_true] at hs
    obtain ⟨r, HV⟩ : ∃ r : ByteArray, Hid (Q.evQ c = r.data.toList) := ⟨⟨(Q.evQ c).toArray⟩, hid rfl⟩
    obtain ⟨is1, is2⟩ := ev_some hc
    have hrs : r.size ≤ 6291456 := by
      have : (Q.evQ c).length = r.size := by rw [HV.out]; simp
      omega
    have HI : Hid (((⟨#[64]⟩ ++ a) ++ ((⟨#[61, 34]⟩ ++ r) ++ ⟨#[34]⟩) : ByteArray).data.toList = s.data.toList) := hid (by
      rw [L.app_list, L.app_list, app3, ← HV.out, ← hs]
      simp)
    have UC : Hid (∀ d os, Calls Tryd.prog 103 #[.string c] (grow (redrawn (w.alloc (predObj ⟨4, 0, a, c⟩)) d) os) fun e w'' => e = .returned (.string ((⟨#[61, 34]⟩ ++ r) ++ ⟨#[34]⟩)) ∧ ∃ p : Regrown, w'' = grow (redrawn (w.alloc (predObj ⟨4, 0, a, c⟩)) p.d) p.os) := hid (fun d os => Calls.regrown_of (equals_any c r _ (HT.out.st.below (hb0.out.trans ((below_regrown _ d os).mono hb0.out.size))) hv HV hrs true (hid is1)))
    have HP0 : Hid ((w.alloc (predObj ⟨4, 0, a, c⟩)).heap[w.heap.size]? = some (predObj ⟨4, 0, a, c⟩)) := hid (heap_alloc_new w _)
    have hes : ((⟨#[61, 34]⟩ ++ r) ++ ⟨#[34]⟩ : ByteArray).size ≤ 6291460 := by
      have e1 : (⟨#[61, 34]⟩ : ByteArray).size = 2 := rfl
      have e2 : (⟨#[34]⟩ : ByteArray).size = 1 := rfl
      rw [ByteArray.size_append, ByteArray.size_append]
      omega
    clear hs HS hc is1 is2
    go_enter Tryd.func67, Tryd.ntmps67
    go_wp2
    show Code.wp _ _ _ _ (w.alloc (predObj ⟨4, 0, a, c⟩))
    generalize (w.alloc (predObj ⟨4, 0, a, c⟩)) = W1 at *
    obtain ⟨_, _, d2, d3⟩ := pred_cells HP0.out
    simp only at d2 d3
    have D2 := cell_regrown d2
    have D3 := cell_regrown d3
    generalize ((⟨#[61, 34]⟩ ++ r) ++ ⟨#[34]⟩ : ByteArray) = es at *
    refine wp_region_quiet_below (by kernel_rfl) (by kernel_rfl) ?_
    repeat (first | go_big_quiet_step (exact UC.out _ _) | quiet_step (exact UC.out _ _))
    refine wpQuiet_nil ?_
    rintro _ ⟨⟨dq, osq⟩, rfl⟩
    have HB5 := hid (hb0.out.trans ((below_regrown W1 dq osq).mono hb0.out.size))
    clear D2 D3 UC
    generalize grow (redrawn W1 dq) osq = W5 at *
    go_wp2
    go_ret
    exact ⟨ret_str HI.out, HB5.out⟩
  · simp only [show ¬ ((5 : Int) = 1) by decide, show ¬ ((5 : Int) = 2) by decide, show ¬ ((5 : Int) = 3) by decide, show ¬ ((5 : Int) = 4) by decide, if_false] at hs
    obtain ⟨r, HV⟩ : ∃ r : ByteArray, Hid (Q.evQ c = r.data.toList) := ⟨⟨(Q.evQ c).toArray⟩, hid rfl⟩
    obtain ⟨is1, is2⟩ := ev_some hc
    have hrs : r.size ≤ 6291456 := by
      have : (Q.evQ c).length = r.size := by rw [HV.out]; simp
      omega
    have HI : Hid ((⟨#[116, 101, 120, 116, 40, 41]⟩ ++ ((⟨#[61, 34]⟩ ++ r) ++ ⟨#[34]⟩) : ByteArray).data.toList = s.data.toList) := hid (by
      rw [L.app_list, app3, ← HV.out, ← hs]
      rfl)
    have hes : ((⟨#[61, 34]⟩ ++ r) ++ ⟨#[34]⟩ : ByteArray).size ≤ 6291460 := by
      have e1 : (⟨#[61, 34]⟩ : ByteArray).size = 2 := rfl
      have e2 : (⟨#[34]⟩ : ByteArray).size = 1 := rfl
      rw [ByteArray.size_append, ByteArray.size_append]
      omega
    clear hs HS hc is2
    go_enter Tryd.func67, Tryd.ntmps67
    go_wp2_with fail
    refine Calls.mono (equals_any c r _ (HT.out.st.below hb0.out) hv HV hrs true (hid is1)) ?_
    rintro e w2 ⟨rfl, hb⟩
    have HB5 := hid (hb0.out.trans (hb.mono hb0.out.size))
    clear hb is1
    generalize ((⟨#[61, 34]⟩ ++ r) ++ ⟨#[34]⟩ : ByteArray) = es at *
    go_wp2
    go_ret
    exact ⟨ret_str HI.out, HB5.out⟩
end Go.Proofs.YtmgemdhpjibdiaaDoor
