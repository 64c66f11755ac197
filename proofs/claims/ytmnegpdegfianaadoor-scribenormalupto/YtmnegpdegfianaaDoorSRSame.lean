/- The walk of the document's own Same, at any two rows. -/
import Derived.Test.YtmnegpdegfianaaDoorS6
namespace Go.Proofs.YtmnegpdegfianaaDoor
open Go.RowKit Go.Shelf
set_option maxRecDepth 100000 in
set_option maxHeartbeats 8000000 in
theorem sameI_gen (V V' : Value) (l l' : List IV) (w : World) (r : Bool) (HR : Hid (S.sameL (l.map (·.1)) (l'.map (·.1)) = r)) (I : Hid (ItemsIn V l w)) (I' : Hid (ItemsIn V' l' w)) :
    Calls Tryd.prog 13 #[V, V'] w fun e w' => e = .returned (.bool r) ∧ Below w.heap.size w w' := by
  obtain ⟨ao, cp, rfl, hl, k1⟩ := I.out.1
  obtain ⟨ao', cp', rfl, hl', k2⟩ := I'.out.1
  have H1 := hid k1
  have H2 := hid k2
  clear k1 k2
  by_cases hn : l.length = l'.length
  · have HN := hid hn
    rw [← hn]
    clear hn hl'
    go_enter Tryd.func13, Tryd.ntmps13
    go_wp2
    go_loopw [5] (fun v5 W => ∃ (k : Nat), v5 = .int .i64 (k : Int) ∧ k ≤ l.length ∧ Hid (∀ j (h : j < l.length) (h' : j < l'.length), j < k → S.sameB l[j].1 l'[j].1 = true) ∧ Hid (Below w.heap.size w W)) (fun v5 _ => l.length - (intOf v5).toNat)
    case atStart => exact ⟨0, rfl, by omega, hid (fun j _ _ h => by omega), hid (Below.refl _ _)⟩
    case round =>
      obtain ⟨k, rfl, hk, HS, HB⟩ := hrel
      by_cases h : k < l.length
      · have h2 : k < l'.length := by rw [← HN.out]; exact h
        have h' : (k : Int) < (l.length : Int) := by omega
        have hne : l ≠ [] := by rintro rfl; simp at h
        have hne' : l' ≠ [] := by rintro rfl; simp at h2
        obtain ⟨g, o, rfl, hg, c⟩ := H1.out hne
        obtain ⟨g', o', rfl, hg', d⟩ := H2.out hne'
        obtain ⟨x0, x1, x2, x3, x4⟩ := c k h
        obtain ⟨y0, y1, y2, y3, y4⟩ := d k h2
        have a1 := I.out.2 _ (List.getElem_mem h)
        have a2 := I'.out.2 _ (List.getElem_mem h2)
        obtain ⟨aa, ca, ea, -, -⟩ := a1
        obtain ⟨ab, cb, eb, -, -⟩ := a2
        have A1 : Hid (∀ m, AttrsIn (.slice aa l[k].1.attrs.length ca) l[k].1.attrs (wr.drewN m)) := hid (fun m => by
          have := I.out.2 _ (List.getElem_mem h); rw [ea] at this; exact (this.below HB.out).below (below_drewN (Below.refl _ _) m))
        have A2 : Hid (∀ m, AttrsIn (.slice ab l'[k].1.attrs.length cb) l'[k].1.attrs (wr.drewN m)) := hid (fun m => by
          have := I'.out.2 _ (List.getElem_mem h2); rw [eb] at this; exact (this.below HB.out).below (below_drewN (Below.refl _ _) m))
        rw [ea] at x4
        rw [eb] at y4
        have HF : Hid (S.sameB l[k].1 l'[k].1 = false → r = false) := hid (fun e => by
          rw [← HR.out]
          exact S.sameL_at (k := k) (by simpa using h) (by simpa using h2) (by simpa using e))
        have HSN : Hid (S.sameB l[k].1 l'[k].1 = true → ∀ j (h : j < l.length) (h' : j < l'.length), j < k + 1 → S.sameB l[j].1 l'[j].1 = true) := hid (fun e j a b t => by
          rcases Nat.lt_or_ge j k with u | u
          · exact HS.out j a b u
          · obtain rfl : j = k := by omega
            exact e)
        have c0 := (HB.out.cell (p := ⟨g, o + k * 5, none⟩) hg).trans x0
        have c1 := (HB.out.cell (p := ⟨g, o + k * 5 + 1, none⟩) hg).trans x1
        have c2 := (HB.out.cell (p := ⟨g, o + k * 5 + 2, none⟩) hg).trans x2
        have c3 := (HB.out.cell (p := ⟨g, o + k * 5 + 3, none⟩) hg).trans x3
        have c4 := (HB.out.cell (p := ⟨g, o + k * 5 + 4, none⟩) hg).trans x4
        have d0 := (HB.out.cell (p := ⟨g', o' + k * 5, none⟩) hg').trans y0
        have d1 := (HB.out.cell (p := ⟨g', o' + k * 5 + 1, none⟩) hg').trans y1
        have d2 := (HB.out.cell (p := ⟨g', o' + k * 5 + 2, none⟩) hg').trans y2
        have d3 := (HB.out.cell (p := ⟨g', o' + k * 5 + 3, none⟩) hg').trans y3
        have d4 := (HB.out.cell (p := ⟨g', o' + k * 5 + 4, none⟩) hg').trans y4
        clear c d x0 x1 x2 x3 x4 y0 y1 y2 y3 y4 ea eb hg hg' hne hne' I I' H1 H2 HS
        generalize l[k].1 = x at *
        generalize l'[k].1 = y at *
        obtain ⟨lv, kd, nm, tx, ats⟩ := x
        obtain ⟨lv', kd', nm', tx', ats'⟩ := y
        dsimp only at *
        have HSB : Hid (S.sameB ⟨lv, kd, nm, tx, ats⟩ ⟨lv', kd', nm', tx', ats'⟩ = decide (lv = lv' ∧ kd = kd' ∧ nm = nm' ∧ tx = tx' ∧ ats = ats')) := hid rfl
        rw [HSB.out] at HF HSN
        clear HSB
        have HAA : Hid (∀ m, Calls Tryd.prog 42 #[.slice aa ats.length ca, .slice ab ats'.length cb] (wr.drewN m) fun e w' => e = .returned (.bool (decide (ats = ats'))) ∧ ∃ n, w' = (wr.drewN m).drewN n) := hid (fun m => sameA_gen _ _ ats ats' _ (A1.out m) (A2.out m))
        clear A1 A2
        by_cases e1 : lv = lv'
        · subst e1
          by_cases e2 : kd = kd'
          · subst e2
            by_cases e3 : nm = nm'
            · subst e3
              by_cases e4 : tx = tx'
              · subst e4
                obtain ⟨q, HQ⟩ : ∃ q, Hid (decide (ats = ats') = q) := ⟨_, hid rfl⟩
                rw [HQ.out] at HAA
                have HF2 : Hid (q = false → r = false) := hid (fun e => HF.out (by rw [← HQ.out] at e; simpa using e))
                have HN2 : Hid (q = true → ∀ j (h : j < l.length) (h' : j < l'.length), j < k + 1 → S.sameB l[j].1 l'[j].1 = true) := hid (fun e => HSN.out (by rw [← HQ.out] at e; simpa using e))
                clear HF HSN HQ
                generalize ats.length = na at *
                generalize ats'.length = na' at *
                cases q with
                | true =>
                  have HN3 := hid (HN2.out rfl)
                  clear HN2 HF2
                  go_wp2_with fail
                  go_quiet (first | (go_at_call 42; refine Calls.quiet_of (HAA.out _)))
                  go_wp2
                  go_roundw
                  case rel => exact ⟨k + 1, by go_num, by omega, HN3, hid (below_drewN HB.out _)⟩
                  case measure => (simp [intOf]; try omega)
                | false =>
                  obtain rfl := HF2.out rfl
                  clear HN2 HF2
                  go_wp2_with fail
                  go_quiet (first | (go_at_call 42; refine Calls.quiet_of (HAA.out _)))
                  go_wp2
                  go_ret
                  exact ⟨rfl, below_drewN HB.out _⟩
              · have e4' : (tx.toList == tx'.toList) = false := by rw [str_eq]; exact decide_eq_false e4
                obtain rfl : r = false := HF.out (by simp [e4])
                clear HF HSN e4 HAA
                go_wp2_with fail
                go_quiet (fail)
                go_wp2
                go_ret
                exact ⟨rfl, below_drewN HB.out _⟩
            · have e3' : (nm.toList == nm'.toList) = false := by rw [str_eq]; exact decide_eq_false e3
              obtain rfl : r = false := HF.out (by simp [e3])
              clear HF HSN e3 HAA
              go_wp2_with fail
              go_quiet (fail)
              go_wp2
              go_ret
              exact ⟨rfl, below_drewN HB.out _⟩
          · have e2' : (kd == kd') = false := beq_eq_false_iff_ne.2 e2
            have e2n : (kd != kd') = true := by simpa using e2
            obtain rfl : r = false := HF.out (by simp [e2])
            clear HF HSN e2 HAA
            go_wp2_with fail
            go_quiet (fail)
            go_wp2
            go_ret
            exact ⟨rfl, below_drewN HB.out _⟩
        · have e1' : (lv == lv') = false := beq_eq_false_iff_ne.2 e1
          have e1n : (lv != lv') = true := by simpa using e1
          obtain rfl : r = false := HF.out (by simp [e1])
          clear HF HSN e1 HAA
          go_wp2_with fail
          go_quiet (fail)
          go_wp2
          go_ret
          exact ⟨rfl, below_drewN HB.out _⟩
      · have h' : ¬ (k : Int) < (l.length : Int) := by omega
        obtain rfl : r = true := by
          rw [← HR.out]
          refine S.sameL_all (by simpa using HN.out) (fun j a b => ?_)
          have a' : j < l.length := by simpa using a
          have := HS.out j a' (by simpa using b) (by omega)
          simpa using this
        go_wp2
        go_ret
        exact ⟨rfl, HB.out⟩
  · obtain rfl : r = false := by rw [← HR.out]; exact S.sameL_len (by simpa using hn)
    have hn' : ((l.length : Int) == (l'.length : Int)) = false := beq_eq_false_iff_ne.2 (by omega)
    have hn2 : ((l.length : Int) != (l'.length : Int)) = true := by simp; omega
    clear hn
    go_enter Tryd.func13, Tryd.ntmps13
    go_wp2
    go_ret
    exact ⟨rfl, Below.refl _ _⟩
end Go.Proofs.YtmnegpdegfianaaDoor
