/- The walk of the document's own rightPred. -/
import Derived.Test.YtncgkglebpobpaaDoorQW3
import Derived.Test.YtncgkglebpobpaaDoorGRKinds
import Derived.Test.YtncgkglebpobpaaDoorGRAll
import Derived.Lib.QuietBelow
namespace Go.Proofs.YtncgkglebpobpaaDoor
open Go.RowKit Go.Shelf Go.Sort
theorem noneQ_of (c : ByteArray) : (c = L.noB ∧ decide (c.toList = []) = true ∧ (c.toList == []) = true ∧ Q.noneB c = true) ∨ (c ≠ L.noB ∧ decide (c.toList = []) = false ∧ (c.toList == []) = false ∧ Q.noneB c = false) := by
  by_cases h : c.toList = []
  · exact Or.inl ⟨(Q.noneB_iff c).1 (decide_eq_true h), decide_eq_true h, by rw [h]; rfl, decide_eq_true h⟩
  · exact Or.inr ⟨fun e => h (of_decide_eq_true ((Q.noneB_iff c).2 e)), decide_eq_false h, beq_eq_false_iff_ne.2 h, decide_eq_false h⟩
theorem count_none {c : ByteArray} (h : G.countZ c.data.toList < 0) : Q.noneB c = false ∧ Q.charsB c = false := by
  constructor
  · rcases noneQ_of c with ⟨rfl, _⟩ | ⟨_, _, _, h4⟩
    · exact absurd h (by decide)
    · exact h4
  · exact decide_eq_false (by omega)
set_option maxRecDepth 100000 in
set_option maxHeartbeats 4000000 in
theorem rrpred_any (p : Q.Pred) (w : World) (hn : p.name.size ≤ 1048576) (hv : p.value.size ≤ 1048576) (r : Bool) (HR : Hid (Q.rightPB p = r)) :
    Calls Tryd.prog 28 #[predV p] w fun e w' => e = .returned (.bool r) ∧ Below w.heap.size w w' := by
  have hb0 : Hid (Below w.heap.size w (w.alloc (predObj p))) := hid ((Below.refl _ _).alloc (Nat.le_refl _) _)
  have nw : Hid ((w.alloc (predObj p)).heap[w.heap.size]? = some (predObj p)) := hid (heap_alloc_new w _)
  obtain ⟨kd, n, a, c⟩ := p
  simp only at hn hv
  have hr := HR.out
  clear HR
  unfold Q.rightPB at hr
  simp only at hr
  have q0 : (w.alloc (predObj ⟨kd, n, a, c⟩)).cell? ⟨w.heap.size, 0, none⟩ = some (.int .i64 kd) := by rw [cell_of_row _ w.heap.size 0 _ _ _ nw.out]; rfl
  have q1 : (w.alloc (predObj ⟨kd, n, a, c⟩)).cell? ⟨w.heap.size, 1, none⟩ = some (.int .i64 n) := by rw [cell_of_row _ w.heap.size 1 _ _ _ nw.out]; rfl
  have q2 : (w.alloc (predObj ⟨kd, n, a, c⟩)).cell? ⟨w.heap.size, 2, none⟩ = some (.string a) := by rw [cell_of_row _ w.heap.size 2 _ _ _ nw.out]; rfl
  have q3 : (w.alloc (predObj ⟨kd, n, a, c⟩)).cell? ⟨w.heap.size, 3, none⟩ = some (.string c) := by rw [cell_of_row _ w.heap.size 3 _ _ _ nw.out]; rfl
  have KC : Hid (∀ W', Below (w.alloc (predObj ⟨kd, n, a, c⟩)).heap.size (w.alloc (predObj ⟨kd, n, a, c⟩)) W' → Below w.heap.size w W' ∧ W'.cell? ⟨w.heap.size, 0, none⟩ = some (.int .i64 kd) ∧ W'.cell? ⟨w.heap.size, 1, none⟩ = some (.int .i64 n) ∧ W'.cell? ⟨w.heap.size, 2, none⟩ = some (.string a) ∧ W'.cell? ⟨w.heap.size, 3, none⟩ = some (.string c)) := hid (fun W' hb =>
    ⟨hb0.out.trans (hb.mono hb0.out.size), (hb.cell (p := ⟨w.heap.size, 0, none⟩) (by simp)).trans q0, (hb.cell (p := ⟨w.heap.size, 1, none⟩) (by simp)).trans q1, (hb.cell (p := ⟨w.heap.size, 2, none⟩) (by simp)).trans q2, (hb.cell (p := ⟨w.heap.size, 3, none⟩) (by simp)).trans q3⟩)
  unfold predV
  by_cases hlow : kd < 1
  · have HF : Hid (r = false) := hid (by rw [← hr]; rw [if_neg (by omega), if_neg (by omega), if_neg (by omega), if_neg (by omega), if_neg (by omega)])
    clear hr nw q0 q1 q2 q3 KC
    go_enter Tryd.func28, Tryd.ntmps28
    go_wp2
    go_ret
    exact ⟨by rw [HF.out]; rfl, hb0.out⟩
  by_cases hhi : 5 < kd
  · have HF : Hid (r = false) := hid (by rw [← hr]; rw [if_neg (by omega), if_neg (by omega), if_neg (by omega), if_neg (by omega), if_neg (by omega)])
    clear hr nw q0 q1 q2 q3 KC
    go_enter Tryd.func28, Tryd.ntmps28
    go_wp2
    go_ret
    exact ⟨by rw [HF.out]; rfl, hb0.out⟩
  obtain ⟨z, HZ⟩ : ∃ z, Hid (G.countZ c.data.toList = z) := ⟨_, hid rfl⟩
  clear nw
  go_enter Tryd.func28, Tryd.ntmps28
  go_wp2_with fail
  refine Calls.mono (rcount_any c z _ hv HZ) ?_
  clear q0 q1 q2 q3
  rintro e w2 ⟨rfl, hb2⟩
  obtain ⟨hb, c0, c1, c2, c3⟩ := KC.out _ hb2
  have HB := hid hb
  clear hb hb2 KC
  by_cases hz : z < 0
  · have HF : Hid (r = false) := hid (by
      obtain ⟨x1, x2⟩ := count_none (c := c) (by rw [HZ.out]; exact hz)
      rw [← hr, x1, x2]
      simp)
    clear hr c0 c1 c2 c3
    go_wp2
    go_ret
    exact ⟨by rw [HF.out]; rfl, HB.out⟩
  have HCH : Hid (Q.charsB c = true) := hid (decide_eq_true (by rw [HZ.out]; omega))
  have HN1 : Hid (∀ z, G.nameB a.data.toList = z → ∀ d os, Calls Tryd.prog 27 #[.string a] (grow (redrawn w2 d) os) fun e w'' => e = .returned (.bool z) ∧ ∃ p : Regrown, w'' = grow (redrawn w2 p.d) p.os) := hid (fun z hz d os => Calls.regrown_of (rname_any a z _ hn (hid hz)))
  obtain ⟨ec, hc1, hc2, hc3⟩ : ∃ ec, decide (c.toList = []) = ec ∧ (c.toList == []) = ec ∧ Q.noneB c = ec := by
    rcases noneQ_of c with ⟨_, h1, h2, h3⟩ | ⟨_, h1, h2, h3⟩
    · exact ⟨true, h1, h2, h3⟩
    · exact ⟨false, h1, h2, h3⟩
  obtain ⟨ea, ha1, ha2, ha3⟩ : ∃ ea, decide (a.toList = []) = ea ∧ (a.toList == []) = ea ∧ Q.noneB a = ea := by
    rcases noneQ_of a with ⟨_, h1, h2, h3⟩ | ⟨_, h1, h2, h3⟩
    · exact ⟨true, h1, h2, h3⟩
    · exact ⟨false, h1, h2, h3⟩
  rw [hc3, ha3, HCH.out] at hr
  clear hc3 ha3 HCH HZ hn hv
  unfold Q.numB at hr
  obtain rfl | rfl | rfl | rfl | rfl : kd = 1 ∨ kd = 2 ∨ kd = 3 ∨ kd = 4 ∨ kd = 5 := by omega
  · simp only [if_true] at hr
    clear hlow hhi
    by_cases n1 : 1 ≤ n
    · by_cases n2 : n ≤ 9999
      · have d1 : decide (1 ≤ n) = true := decide_eq_true n1
        have d2 : decide (n ≤ 9999) = true := decide_eq_true n2
        rw [d1, d2] at hr
        clear d1 d2
        go_wp2_with fail
        cases hnm : L.nameP a with
        | false =>
          have CN := hid (HN1.out false hnm)
          cases ea with
          | false =>
            have HF : Hid (r = false) := hid (by rw [← hr]; simp)
            clear hr HN1 hnm
            have D0 := cell_regrown c0
            have D2 := cell_regrown c2
            refine wp_region_quiet_below (by kernel_rfl) (by kernel_rfl) ?_
            repeat (first | go_big_quiet_step (exact CN.out _ _) | quiet_step (exact CN.out _ _))
            refine wpQuiet_nil ?_
            rintro _ ⟨⟨dq, osq⟩, rfl⟩
            have HB5 := hid (HB.out.trans ((below_regrown w2 dq osq).mono HB.out.size))
            have k0 := D0 dq osq
            have k3 := cell_regrown c3 dq osq
            clear D0 D2 CN c0 c1 c2 c3
            generalize grow (redrawn w2 dq) osq = W5 at *
            go_wp2
            go_ret
            exact ⟨by rw [HF.out]; rfl, HB5.out⟩
          | true =>
            have HF : Hid (r = ec) := hid (by rw [← hr]; simp)
            clear hr HN1 hnm
            have D0 := cell_regrown c0
            have D2 := cell_regrown c2
            refine wp_region_quiet_below (by kernel_rfl) (by kernel_rfl) ?_
            repeat (first | go_big_quiet_step (exact CN.out _ _) | quiet_step (exact CN.out _ _))
            refine wpQuiet_nil ?_
            rintro _ ⟨⟨dq, osq⟩, rfl⟩
            have HB5 := hid (HB.out.trans ((below_regrown w2 dq osq).mono HB.out.size))
            have k0 := D0 dq osq
            have k3 := cell_regrown c3 dq osq
            clear D0 D2 CN c0 c1 c2 c3
            generalize grow (redrawn w2 dq) osq = W5 at *
            go_wp2
            go_ret
            exact ⟨by rw [HF.out]; try rfl, HB5.out⟩
        | true =>
          have CN := hid (HN1.out true hnm)
          have HA : Hid (ea = false) := hid (by
            cases he : ea with
            | false => rfl
            | true =>
              have h := of_decide_eq_true (ha1.trans he)
              rw [ByteArray.toList_eq] at h
              unfold L.nameP at hnm
              rw [h] at hnm
              exact absurd hnm (by decide))
          obtain rfl := HA.out
          have HF : Hid (r = false) := hid (by rw [← hr]; simp)
          clear hr HN1 hnm
          have D0 := cell_regrown c0
          have D2 := cell_regrown c2
          refine wp_region_quiet_below (by kernel_rfl) (by kernel_rfl) ?_
          repeat (first | go_big_quiet_step (exact CN.out _ _) | quiet_step (exact CN.out _ _))
          refine wpQuiet_nil ?_
          rintro _ ⟨⟨dq, osq⟩, rfl⟩
          have HB5 := hid (HB.out.trans ((below_regrown w2 dq osq).mono HB.out.size))
          have k0 := D0 dq osq
          have k3 := cell_regrown c3 dq osq
          clear D0 D2 CN c0 c1 c2 c3
          generalize grow (redrawn w2 dq) osq = W5 at *
          go_wp2
          go_ret
          exact ⟨by rw [HF.out]; rfl, HB5.out⟩
      · have d2 : decide (n ≤ 9999) = false := decide_eq_false n2
        rw [d2] at hr
        clear d2
        have HF : Hid (r = false) := hid (by rw [← hr]; simp)
        clear hr HN1
        go_wp2
        go_ret
        exact ⟨by rw [HF.out]; rfl, HB.out⟩
    · have d1 : decide (1 ≤ n) = false := decide_eq_false n1
      rw [d1] at hr
      clear d1
      have HF : Hid (r = false) := hid (by rw [← hr]; simp)
      clear hr HN1
      go_wp2
      go_ret
      exact ⟨by rw [HF.out]; rfl, HB.out⟩
  · simp only [show ¬ ((2 : Int) = 1) by decide, if_true, if_false] at hr
    clear hlow hhi
    by_cases n0 : n = 0
    · subst n0
      simp only [decide_true] at hr
      go_wp2_with fail
      cases hnm : L.nameP a with
      | false =>
        have CN := hid (HN1.out false hnm)
        cases ea with
        | false =>
          have HF : Hid (r = false) := hid (by rw [← hr]; simp)
          clear hr HN1 hnm
          have D0 := cell_regrown c0
          have D2 := cell_regrown c2
          refine wp_region_quiet_below (by kernel_rfl) (by kernel_rfl) ?_
          repeat (first | go_big_quiet_step (exact CN.out _ _) | quiet_step (exact CN.out _ _))
          refine wpQuiet_nil ?_
          rintro _ ⟨⟨dq, osq⟩, rfl⟩
          have HB5 := hid (HB.out.trans ((below_regrown w2 dq osq).mono HB.out.size))
          have k0 := D0 dq osq
          have k3 := cell_regrown c3 dq osq
          clear D0 D2 CN c0 c1 c2 c3
          generalize grow (redrawn w2 dq) osq = W5 at *
          go_wp2
          go_ret
          exact ⟨by rw [HF.out]; rfl, HB5.out⟩
        | true =>
          have HF : Hid (r = ec) := hid (by rw [← hr]; simp)
          clear hr HN1 hnm
          have D0 := cell_regrown c0
          have D2 := cell_regrown c2
          refine wp_region_quiet_below (by kernel_rfl) (by kernel_rfl) ?_
          repeat (first | go_big_quiet_step (exact CN.out _ _) | quiet_step (exact CN.out _ _))
          refine wpQuiet_nil ?_
          rintro _ ⟨⟨dq, osq⟩, rfl⟩
          have HB5 := hid (HB.out.trans ((below_regrown w2 dq osq).mono HB.out.size))
          have k0 := D0 dq osq
          have k3 := cell_regrown c3 dq osq
          clear D0 D2 CN c0 c1 c2 c3
          generalize grow (redrawn w2 dq) osq = W5 at *
          go_wp2
          go_ret
          exact ⟨by rw [HF.out]; try rfl, HB5.out⟩
      | true =>
        have CN := hid (HN1.out true hnm)
        have HA : Hid (ea = false) := hid (by
          cases he : ea with
          | false => rfl
          | true =>
            have h := of_decide_eq_true (ha1.trans he)
            rw [ByteArray.toList_eq] at h
            unfold L.nameP at hnm
            rw [h] at hnm
            exact absurd hnm (by decide))
        obtain rfl := HA.out
        have HF : Hid (r = false) := hid (by rw [← hr]; simp)
        clear hr HN1 hnm
        have D0 := cell_regrown c0
        have D2 := cell_regrown c2
        refine wp_region_quiet_below (by kernel_rfl) (by kernel_rfl) ?_
        repeat (first | go_big_quiet_step (exact CN.out _ _) | quiet_step (exact CN.out _ _))
        refine wpQuiet_nil ?_
        rintro _ ⟨⟨dq, osq⟩, rfl⟩
        have HB5 := hid (HB.out.trans ((below_regrown w2 dq osq).mono HB.out.size))
        have k0 := D0 dq osq
        have k3 := cell_regrown c3 dq osq
        clear D0 D2 CN c0 c1 c2 c3
        generalize grow (redrawn w2 dq) osq = W5 at *
        go_wp2
        go_ret
        exact ⟨by rw [HF.out]; rfl, HB5.out⟩
    · have b0 : (n != 0) = true := bne_iff_ne.2 n0
      have b0' : (n == 0) = false := beq_eq_false_iff_ne.2 n0
      have d0 : decide (n = 0) = false := decide_eq_false n0
      rw [d0] at hr
      clear d0
      by_cases n1 : 1 ≤ n
      · by_cases n2 : n ≤ 9999
        · have HF : Hid (r = false) := hid (by rw [← hr]; simp)
          clear hr HN1
          go_wp2
          go_ret
          exact ⟨by rw [HF.out]; rfl, HB.out⟩
        · have HF : Hid (r = false) := hid (by rw [← hr]; simp)
          clear hr HN1
          go_wp2
          go_ret
          exact ⟨by rw [HF.out]; rfl, HB.out⟩
      · have HF : Hid (r = false) := hid (by rw [← hr]; simp)
        clear hr HN1
        go_wp2
        go_ret
        exact ⟨by rw [HF.out]; rfl, HB.out⟩
  · simp only [show ¬ ((3 : Int) = 1) by decide, show ¬ ((3 : Int) = 2) by decide, if_true, if_false] at hr
    clear hlow hhi
    by_cases n0 : n = 0
    · subst n0
      simp only [decide_true] at hr
      go_wp2_with fail
      cases hnm : L.nameP a with
      | false =>
        have CN := hid (HN1.out false hnm)
        have HF : Hid (r = false) := hid (by rw [← hr]; simp [hnm])
        clear hr HN1 hnm
        have D0 := cell_regrown c0
        have D2 := cell_regrown c2
        refine wp_region_quiet_below (by kernel_rfl) (by kernel_rfl) ?_
        repeat (first | go_big_quiet_step (exact CN.out _ _) | quiet_step (exact CN.out _ _))
        refine wpQuiet_nil ?_
        rintro _ ⟨⟨dq, osq⟩, rfl⟩
        have HB5 := hid (HB.out.trans ((below_regrown w2 dq osq).mono HB.out.size))
        have k0 := D0 dq osq
        have k3 := cell_regrown c3 dq osq
        clear D0 D2 CN c0 c1 c2 c3
        generalize grow (redrawn w2 dq) osq = W5 at *
        go_wp2
        go_ret
        exact ⟨by rw [HF.out]; rfl, HB5.out⟩
      | true =>
        have CN := hid (HN1.out true hnm)
        have HF : Hid (r = ec) := hid (by rw [← hr]; simp [hnm])
        clear hr HN1 hnm
        have D0 := cell_regrown c0
        have D2 := cell_regrown c2
        refine wp_region_quiet_below (by kernel_rfl) (by kernel_rfl) ?_
        repeat (first | go_big_quiet_step (exact CN.out _ _) | quiet_step (exact CN.out _ _))
        refine wpQuiet_nil ?_
        rintro _ ⟨⟨dq, osq⟩, rfl⟩
        have HB5 := hid (HB.out.trans ((below_regrown w2 dq osq).mono HB.out.size))
        have k0 := D0 dq osq
        have k3 := cell_regrown c3 dq osq
        clear D0 D2 CN c0 c1 c2 c3
        generalize grow (redrawn w2 dq) osq = W5 at *
        go_wp2
        go_ret
        exact ⟨by rw [HF.out]; try rfl, HB5.out⟩
    · have b0 : (n != 0) = true := bne_iff_ne.2 n0
      have b0' : (n == 0) = false := beq_eq_false_iff_ne.2 n0
      have d0 : decide (n = 0) = false := decide_eq_false n0
      rw [d0] at hr
      clear d0
      by_cases n1 : 1 ≤ n
      · by_cases n2 : n ≤ 9999
        · have HF : Hid (r = false) := hid (by rw [← hr]; simp)
          clear hr HN1
          go_wp2
          go_ret
          exact ⟨by rw [HF.out]; rfl, HB.out⟩
        · have HF : Hid (r = false) := hid (by rw [← hr]; simp)
          clear hr HN1
          go_wp2
          go_ret
          exact ⟨by rw [HF.out]; rfl, HB.out⟩
      · have HF : Hid (r = false) := hid (by rw [← hr]; simp)
        clear hr HN1
        go_wp2
        go_ret
        exact ⟨by rw [HF.out]; rfl, HB.out⟩
  · simp only [show ¬ ((4 : Int) = 1) by decide, show ¬ ((4 : Int) = 2) by decide, show ¬ ((4 : Int) = 3) by decide, if_true, if_false] at hr
    clear hlow hhi
    by_cases n0 : n = 0
    · subst n0
      simp only [decide_true] at hr
      go_wp2_with fail
      cases hnm : L.nameP a with
      | false =>
        have CN := hid (HN1.out false hnm)
        have HF : Hid (r = false) := hid (by rw [← hr]; simp [hnm])
        clear hr HN1 hnm
        have D0 := cell_regrown c0
        have D2 := cell_regrown c2
        refine wp_region_quiet_below (by kernel_rfl) (by kernel_rfl) ?_
        repeat (first | go_big_quiet_step (exact CN.out _ _) | quiet_step (exact CN.out _ _))
        refine wpQuiet_nil ?_
        rintro _ ⟨⟨dq, osq⟩, rfl⟩
        have HB5 := hid (HB.out.trans ((below_regrown w2 dq osq).mono HB.out.size))
        have k0 := D0 dq osq
        have k3 := cell_regrown c3 dq osq
        clear D0 D2 CN c0 c1 c2 c3
        generalize grow (redrawn w2 dq) osq = W5 at *
        go_wp2
        go_ret
        exact ⟨by rw [HF.out]; rfl, HB5.out⟩
      | true =>
        have CN := hid (HN1.out true hnm)
        have HF : Hid (r = true) := hid (by rw [← hr]; simp [hnm])
        clear hr HN1 hnm
        have D0 := cell_regrown c0
        have D2 := cell_regrown c2
        refine wp_region_quiet_below (by kernel_rfl) (by kernel_rfl) ?_
        repeat (first | go_big_quiet_step (exact CN.out _ _) | quiet_step (exact CN.out _ _))
        refine wpQuiet_nil ?_
        rintro _ ⟨⟨dq, osq⟩, rfl⟩
        have HB5 := hid (HB.out.trans ((below_regrown w2 dq osq).mono HB.out.size))
        have k0 := D0 dq osq
        have k3 := cell_regrown c3 dq osq
        clear D0 D2 CN c0 c1 c2 c3
        generalize grow (redrawn w2 dq) osq = W5 at *
        go_wp2
        go_ret
        exact ⟨by rw [HF.out]; rfl, HB5.out⟩
    · have b0 : (n != 0) = true := bne_iff_ne.2 n0
      have b0' : (n == 0) = false := beq_eq_false_iff_ne.2 n0
      have d0 : decide (n = 0) = false := decide_eq_false n0
      rw [d0] at hr
      clear d0
      by_cases n1 : 1 ≤ n
      · by_cases n2 : n ≤ 9999
        · have HF : Hid (r = false) := hid (by rw [← hr]; simp)
          clear hr HN1
          go_wp2
          go_ret
          exact ⟨by rw [HF.out]; rfl, HB.out⟩
        · have HF : Hid (r = false) := hid (by rw [← hr]; simp)
          clear hr HN1
          go_wp2
          go_ret
          exact ⟨by rw [HF.out]; rfl, HB.out⟩
      · have HF : Hid (r = false) := hid (by rw [← hr]; simp)
        clear hr HN1
        go_wp2
        go_ret
        exact ⟨by rw [HF.out]; rfl, HB.out⟩
  · simp only [show ¬ ((5 : Int) = 1) by decide, show ¬ ((5 : Int) = 2) by decide, show ¬ ((5 : Int) = 3) by decide, show ¬ ((5 : Int) = 4) by decide, if_true, if_false] at hr
    clear hlow hhi
    by_cases n0 : n = 0
    · subst n0
      simp only [decide_true] at hr
      go_wp2_with fail
      cases hnm : L.nameP a with
      | false =>
        have CN := hid (HN1.out false hnm)
        cases ea with
        | false =>
          have HF : Hid (r = false) := hid (by rw [← hr]; simp)
          clear hr HN1 hnm
          have D0 := cell_regrown c0
          have D2 := cell_regrown c2
          refine wp_region_quiet_below (by kernel_rfl) (by kernel_rfl) ?_
          repeat (first | go_big_quiet_step (exact CN.out _ _) | quiet_step (exact CN.out _ _))
          refine wpQuiet_nil ?_
          rintro _ ⟨⟨dq, osq⟩, rfl⟩
          have HB5 := hid (HB.out.trans ((below_regrown w2 dq osq).mono HB.out.size))
          have k0 := D0 dq osq
          have k3 := cell_regrown c3 dq osq
          clear D0 D2 CN c0 c1 c2 c3
          generalize grow (redrawn w2 dq) osq = W5 at *
          go_wp2
          go_ret
          exact ⟨by rw [HF.out]; rfl, HB5.out⟩
        | true =>
          have HF : Hid (r = true) := hid (by rw [← hr]; simp)
          clear hr HN1 hnm
          have D0 := cell_regrown c0
          have D2 := cell_regrown c2
          refine wp_region_quiet_below (by kernel_rfl) (by kernel_rfl) ?_
          repeat (first | go_big_quiet_step (exact CN.out _ _) | quiet_step (exact CN.out _ _))
          refine wpQuiet_nil ?_
          rintro _ ⟨⟨dq, osq⟩, rfl⟩
          have HB5 := hid (HB.out.trans ((below_regrown w2 dq osq).mono HB.out.size))
          have k0 := D0 dq osq
          have k3 := cell_regrown c3 dq osq
          clear D0 D2 CN c0 c1 c2 c3
          generalize grow (redrawn w2 dq) osq = W5 at *
          go_wp2
          go_ret
          exact ⟨by rw [HF.out]; rfl, HB5.out⟩
      | true =>
        have CN := hid (HN1.out true hnm)
        have HA : Hid (ea = false) := hid (by
          cases he : ea with
          | false => rfl
          | true =>
            have h := of_decide_eq_true (ha1.trans he)
            rw [ByteArray.toList_eq] at h
            unfold L.nameP at hnm
            rw [h] at hnm
            exact absurd hnm (by decide))
        obtain rfl := HA.out
        have HF : Hid (r = false) := hid (by rw [← hr]; simp)
        clear hr HN1 hnm
        have D0 := cell_regrown c0
        have D2 := cell_regrown c2
        refine wp_region_quiet_below (by kernel_rfl) (by kernel_rfl) ?_
        repeat (first | go_big_quiet_step (exact CN.out _ _) | quiet_step (exact CN.out _ _))
        refine wpQuiet_nil ?_
        rintro _ ⟨⟨dq, osq⟩, rfl⟩
        have HB5 := hid (HB.out.trans ((below_regrown w2 dq osq).mono HB.out.size))
        have k0 := D0 dq osq
        have k3 := cell_regrown c3 dq osq
        clear D0 D2 CN c0 c1 c2 c3
        generalize grow (redrawn w2 dq) osq = W5 at *
        go_wp2
        go_ret
        exact ⟨by rw [HF.out]; rfl, HB5.out⟩
    · have b0 : (n != 0) = true := bne_iff_ne.2 n0
      have b0' : (n == 0) = false := beq_eq_false_iff_ne.2 n0
      have d0 : decide (n = 0) = false := decide_eq_false n0
      rw [d0] at hr
      clear d0
      by_cases n1 : 1 ≤ n
      · by_cases n2 : n ≤ 9999
        · have HF : Hid (r = false) := hid (by rw [← hr]; simp)
          clear hr HN1
          go_wp2
          go_ret
          exact ⟨by rw [HF.out]; rfl, HB.out⟩
        · have HF : Hid (r = false) := hid (by rw [← hr]; simp)
          clear hr HN1
          go_wp2
          go_ret
          exact ⟨by rw [HF.out]; rfl, HB.out⟩
      · have HF : Hid (r = false) := hid (by rw [← hr]; simp)
        clear hr HN1
        go_wp2
        go_ret
        exact ⟨by rw [HF.out]; rfl, HB.out⟩
end Go.Proofs.YtncgkglebpobpaaDoor
