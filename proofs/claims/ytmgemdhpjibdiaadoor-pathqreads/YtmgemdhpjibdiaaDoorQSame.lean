/- The walk of the document's own Same at two rows with the same steps. -/
import Derived.Test.YtmgemdhpjibdiaaDoorQW3
namespace Go.Proofs.YtmgemdhpjibdiaaDoor
open Go.RowKit Go.Shelf
theorem below_drewQ {B : Nat} {a w : World} (h : Below B a w) (m : Nat) : Below B a (w.drewN m) := ⟨h.os, h.tape, h.output, h.size, h.block⟩
set_option maxRecDepth 100000 in
set_option maxHeartbeats 8000000 in
theorem sameQ_any (V V' : Value) (l l' : List SV) (w : World) (I : Hid (StepsIn V l w)) (I' : Hid (StepsIn V' l' w)) (he : l.map (·.1) = l'.map (·.1)) :
    Calls Tryd.prog 22 #[V, V'] w fun e w' => e = .returned (.bool true) ∧ Below w.heap.size w w' := by
  have hlen : l'.length = l.length := by have := congrArg List.length he; simpa using this.symm
  have HE : Hid (∀ k (h : k < l.length) (h' : k < l'.length), l'[k].1 = l[k].1) := hid (fun k h h' => by
    have := congrArg (fun x : List Q.Step => x[k]?) he
    simpa [List.getElem?_eq_getElem, h, h'] using this.symm)
  obtain ⟨ao, cp, rfl, hl, k1⟩ := I.out.1
  obtain ⟨ao', cp', rfl, _, k2⟩ := I'.out.1
  have H1 := hid k1
  have H2 := hid k2
  have HL := hid hlen
  rw [hlen]
  clear k1 k2 he hlen
  go_enter Tryd.func22, Tryd.ntmps22
  go_wp2
  go_loopw [5] (fun v5 W => ∃ (k : Nat), v5 = .int .i64 (k : Int) ∧ k ≤ l.length ∧ Hid (Below w.heap.size w W)) (fun v5 _ => l.length - (intOf v5).toNat)
  case atStart => exact ⟨0, rfl, by omega, hid (Below.refl _ _)⟩
  case round =>
    obtain ⟨k, rfl, hk, HB⟩ := hrel
    by_cases h : k < l.length
    · have h2 : k < l'.length := by rw [HL.out]; exact h
      have hne : l ≠ [] := by rintro rfl; simp at h
      have hne' : l' ≠ [] := by rintro rfl; simp at h2
      obtain ⟨g, o, rfl, hg, c⟩ := H1.out hne
      obtain ⟨g', o', rfl, hg', d⟩ := H2.out hne'
      obtain ⟨x0, x1, x2, x3⟩ := c k h
      obtain ⟨y0, y1, y2, y3⟩ := d k h2
      have e1 := HE.out k h h2
      rw [e1] at y0 y1 y2
      have a1 := I.out.2 _ (List.getElem_mem h)
      have a2 := I'.out.2 _ (List.getElem_mem h2)
      rw [e1] at a2
      have HV : Hid (l[k].2 = l[k].2 ∧ l'[k].2 = l'[k].2) := hid ⟨rfl, rfl⟩
      generalize l[k].1 = st at *
      generalize l[k].2 = va at *
      generalize l'[k].2 = vb at *
      obtain ⟨ax, te, nm, ps⟩ := st
      obtain ⟨aa, ca, rfl, hpl, pa⟩ := a1
      obtain ⟨ab, cb, rfl, -, pb⟩ := a2
      simp only at x0 x1 x2 x3 y0 y1 y2 y3 pa pb hpl
      have KC : Hid (∀ W, Below w.heap.size w W → W.cell? ⟨g, o + k * 4, none⟩ = some (.int .i64 ax) ∧ W.cell? ⟨g, o + k * 4 + 1, none⟩ = some (.int .i64 te) ∧ W.cell? ⟨g, o + k * 4 + 2, none⟩ = some (.string nm) ∧ W.cell? ⟨g, o + k * 4 + 3, none⟩ = some (.slice aa ps.length ca) ∧ W.cell? ⟨g', o' + k * 4, none⟩ = some (.int .i64 ax) ∧ W.cell? ⟨g', o' + k * 4 + 1, none⟩ = some (.int .i64 te) ∧ W.cell? ⟨g', o' + k * 4 + 2, none⟩ = some (.string nm) ∧ W.cell? ⟨g', o' + k * 4 + 3, none⟩ = some (.slice ab ps.length cb)) := hid (fun W hb =>
        ⟨(hb.cell (p := ⟨g, o + k * 4, none⟩) hg).trans x0, (hb.cell (p := ⟨g, o + k * 4 + 1, none⟩) hg).trans x1, (hb.cell (p := ⟨g, o + k * 4 + 2, none⟩) hg).trans x2, (hb.cell (p := ⟨g, o + k * 4 + 3, none⟩) hg).trans x3,
         (hb.cell (p := ⟨g', o' + k * 4, none⟩) hg').trans y0, (hb.cell (p := ⟨g', o' + k * 4 + 1, none⟩) hg').trans y1, (hb.cell (p := ⟨g', o' + k * 4 + 2, none⟩) hg').trans y2, (hb.cell (p := ⟨g', o' + k * 4 + 3, none⟩) hg').trans y3⟩)
      obtain ⟨c0, c1, c2, c3, d0, d1, d2, d3⟩ := KC.out _ HB.out
      have PA := hid pa
      have PB := hid pb
      have h' : (k : Int) < (l.length : Int) := by omega
      clear c d x0 x1 x2 x3 y0 y1 y2 y3 e1 hg hg' hne hne' I I' H1 H2 pa pb HE
      go_wp2_with fail
      go_quiet (fail)
      have HB2 := hid (below_drewQ HB.out nq)
      generalize wr.drewN nq = W1 at *
      clear c0 c1 c2 c3 d0 d1 d2 d3
      go_wp2
      go_loopw [6] (fun v6 W => ∃ (j : Nat), v6 = .int .i64 (j : Int) ∧ j ≤ ps.length ∧ Hid (Below w.heap.size w W)) (fun v6 _ => ps.length - (intOf v6).toNat)
      case atStart => exact ⟨0, rfl, by omega, HB2⟩
      case round =>
        obtain ⟨j, rfl, hj, HBJ⟩ := hrel
        obtain ⟨c0, c1, c2, c3, d0, d1, d2, d3⟩ := KC.out _ HBJ.out
        by_cases hlt : j < ps.length
        · have hlt' : (j : Int) < (ps.length : Int) := by omega
          obtain ⟨g1, o1, rfl, hg1, q1⟩ := PA.out (by rintro rfl; simp at hlt)
          obtain ⟨g2, o2, rfl, hg2, q2⟩ := PB.out (by rintro rfl; simp at hlt)
          obtain ⟨r0, r1, r2, r3⟩ := q1 j hlt
          obtain ⟨s0, s1, s2, s3⟩ := q2 j hlt
          have HPJ : Hid (ps[j] = ps[j]) := hid rfl
          generalize ps[j] = p at *
          obtain ⟨kd, nn, pn, pv⟩ := p
          simp only at r0 r1 r2 r3 s0 s1 s2 s3
          have m0 := (HBJ.out.cell (p := ⟨g1, o1 + j * 4, none⟩) hg1).trans r0
          have m1 := (HBJ.out.cell (p := ⟨g1, o1 + j * 4 + 1, none⟩) hg1).trans r1
          have m2 := (HBJ.out.cell (p := ⟨g1, o1 + j * 4 + 2, none⟩) hg1).trans r2
          have m3 := (HBJ.out.cell (p := ⟨g1, o1 + j * 4 + 3, none⟩) hg1).trans r3
          have n0 := (HBJ.out.cell (p := ⟨g2, o2 + j * 4, none⟩) hg2).trans s0
          have n1 := (HBJ.out.cell (p := ⟨g2, o2 + j * 4 + 1, none⟩) hg2).trans s1
          have n2 := (HBJ.out.cell (p := ⟨g2, o2 + j * 4 + 2, none⟩) hg2).trans s2
          have n3 := (HBJ.out.cell (p := ⟨g2, o2 + j * 4 + 3, none⟩) hg2).trans s3
          clear r0 r1 r2 r3 s0 s1 s2 s3 q1 q2 hg1 hg2 HPJ
          go_wp2_with fail
          go_quiet (fail)
          go_wp2
          go_roundw
          case rel => exact ⟨j + 1, by go_num, by omega, hid (below_drewQ HBJ.out _)⟩
          case measure => (simp [intOf]; try omega)
        · have hlt' : ¬ (j : Int) < (ps.length : Int) := by omega
          go_wp2
          go_roundw
          case rel => exact ⟨k + 1, by go_num, by omega, HBJ⟩
          case measure => (simp [intOf]; try omega)
    · have h' : ¬ (k : Int) < (l.length : Int) := by omega
      go_wp2
      go_ret
      exact ⟨rfl, HB.out⟩
end Go.Proofs.YtmgemdhpjibdiaaDoor
