/- The walks of the document's own Same at two rows with the same items. -/
import Derived.Test.YtmnegpdegfianaaDoorPItems
namespace Go.Proofs.YtmnegpdegfianaaDoor
open Go.RowKit Go.Shelf
theorem more_drewS {w w' : World} (h : ∃ m, w' = w.drewN m) (n : Nat) : ∃ m, w'.drewN n = w.drewN m := by
  obtain ⟨m, hm⟩ := h
  exact ⟨m + n, by rw [hm, World.drewN_drewN]⟩
set_option maxRecDepth 100000 in
set_option maxHeartbeats 1000000 in
theorem sameA_quiet (v v' : Value) (l : List L.Attr) (w : World) (h1 : AttrsIn v l w) (h2 : AttrsIn v' l w) :
    Calls Tryd.prog 42 #[v, v'] w fun e w' => e = .returned (.bool true) ∧ ∃ m, w' = w.drewN m := by
  obtain ⟨ao, cp, rfl, hl, k1⟩ := h1
  obtain ⟨ao', cp', rfl, _, k2⟩ := h2
  have H1 := hid k1
  have H2 := hid k2
  clear k1 k2
  go_enter Tryd.func42, Tryd.ntmps42
  go_wp2
  go_loopw [5] (fun v5 W => ∃ (k : Nat), v5 = .int .i64 (k : Int) ∧ k ≤ l.length ∧ Hid (∃ m, W = w.drewN m)) (fun v5 _ => l.length - (intOf v5).toNat)
  case atStart => exact ⟨0, rfl, by omega, hid ⟨0, rfl⟩⟩
  case round =>
    obtain ⟨k, rfl, hk, HM⟩ := hrel
    by_cases h : k < l.length
    · obtain ⟨g, o, rfl, _, c⟩ := H1.out (by rintro rfl; simp at h)
      obtain ⟨g', o', rfl, _, d⟩ := H2.out (by rintro rfl; simp at h)
      have c0 : wr.cell? ⟨g, o + k * 2, none⟩ = some (.string l[k].1) := by obtain ⟨m, hm⟩ := HM.out; rw [hm]; exact (c k h).1
      have c1 : wr.cell? ⟨g, o + k * 2 + 1, none⟩ = some (.string l[k].2) := by obtain ⟨m, hm⟩ := HM.out; rw [hm]; exact (c k h).2
      have d0 : wr.cell? ⟨g', o' + k * 2, none⟩ = some (.string l[k].1) := by obtain ⟨m, hm⟩ := HM.out; rw [hm]; exact (d k h).1
      have d1 : wr.cell? ⟨g', o' + k * 2 + 1, none⟩ = some (.string l[k].2) := by obtain ⟨m, hm⟩ := HM.out; rw [hm]; exact (d k h).2
      have h' : (k : Int) < (l.length : Int) := by omega
      clear c d
      generalize l[k].1 = x at *
      generalize l[k].2 = y at *
      go_wp2_with fail
      go_quiet (fail)
      go_wp2
      go_roundw
      case rel => exact ⟨k + 1, by go_num, by omega, hid (more_drewS HM.out _)⟩
      case measure => (simp [intOf]; try omega)
    · have h' : ¬ (k : Int) < (l.length : Int) := by omega
      go_wp2
      go_ret
      exact ⟨rfl, HM.out⟩
set_option maxRecDepth 100000 in
set_option maxHeartbeats 4000000 in
theorem sameI_any (V V' : Value) (l l' : List IV) (w : World) (I : Hid (ItemsIn V l w)) (I' : Hid (ItemsIn V' l' w)) (he : l.map (·.1) = l'.map (·.1)) :
    Calls Tryd.prog 13 #[V, V'] w fun e w' => e = .returned (.bool true) ∧ Below w.heap.size w w' := by
  have hlen : l'.length = l.length := by have := congrArg List.length he; simpa using this.symm
  have HE : Hid (∀ k (h : k < l.length) (h' : k < l'.length), l'[k].1 = l[k].1) := hid (fun k h h' => by
    have := congrArg (fun x : List P.Itm => x[k]?) he
    simpa [List.getElem?_eq_getElem, h, h'] using this.symm)
  obtain ⟨ao, cp, rfl, hl, k1⟩ := I.out.1
  obtain ⟨ao', cp', rfl, _, k2⟩ := I'.out.1
  have H1 := hid k1
  have H2 := hid k2
  have HL := hid hlen
  rw [hlen]
  clear k1 k2 he hlen
  go_enter Tryd.func13, Tryd.ntmps13
  go_wp2
  go_loopw [5] (fun v5 W => ∃ (k : Nat), v5 = .int .i64 (k : Int) ∧ k ≤ l.length ∧ Hid (Below w.heap.size w W)) (fun v5 _ => l.length - (intOf v5).toNat)
  case atStart => exact ⟨0, rfl, by omega, hid (Below.refl _ _)⟩
  case round =>
    obtain ⟨k, rfl, hk, HB⟩ := hrel
    by_cases h : k < l.length
    · have h2 : k < l'.length := by rw [HL.out]; exact h
      have hne : l ≠ [] := by rintro rfl; simp at h
      have hne' : l' ≠ [] := by rintro rfl; simp at h2
      obtain ⟨g, o, rfl, hg, c⟩ := H1.out hne
      obtain ⟨g', o', rfl, hg', d⟩ := H2.out hne'
      obtain ⟨x0, x1, x2, x3, x4⟩ := c k h
      obtain ⟨y0, y1, y2, y3, y4⟩ := d k h2
      have e1 := HE.out k h h2
      rw [e1] at y0 y1 y2 y3
      have a1 := I.out.2 _ (List.getElem_mem h)
      have a2 := I'.out.2 _ (List.getElem_mem h2)
      rw [e1] at a2
      obtain ⟨aa, ca, ea, -, -⟩ := a1
      obtain ⟨ab, cb, eb, -, -⟩ := a2
      have A1 : Hid (∀ m, AttrsIn (.slice aa l[k].1.attrs.length ca) l[k].1.attrs (wr.drewN m)) := hid (fun m => by
        have := I.out.2 _ (List.getElem_mem h); rw [ea] at this; exact (this.below HB.out).below (below_drewN (Below.refl _ _) m))
      have A2 : Hid (∀ m, AttrsIn (.slice ab l[k].1.attrs.length cb) l[k].1.attrs (wr.drewN m)) := hid (fun m => by
        have := I'.out.2 _ (List.getElem_mem h2); rw [eb, e1] at this; exact (this.below HB.out).below (below_drewN (Below.refl _ _) m))
      rw [ea] at x4
      rw [eb] at y4
      have c0 : wr.cell? ⟨g, o + k * 5, none⟩ = some (.int .i64 l[k].1.level) := (HB.out.cell (p := ⟨g, o + k * 5, none⟩) hg).trans x0
      have c1 : wr.cell? ⟨g, o + k * 5 + 1, none⟩ = some (.int .i64 l[k].1.kind) := (HB.out.cell (p := ⟨g, o + k * 5 + 1, none⟩) hg).trans x1
      have c2 : wr.cell? ⟨g, o + k * 5 + 2, none⟩ = some (.string l[k].1.name) := (HB.out.cell (p := ⟨g, o + k * 5 + 2, none⟩) hg).trans x2
      have c3 : wr.cell? ⟨g, o + k * 5 + 3, none⟩ = some (.string l[k].1.text) := (HB.out.cell (p := ⟨g, o + k * 5 + 3, none⟩) hg).trans x3
      have c4 : wr.cell? ⟨g, o + k * 5 + 4, none⟩ = some (.slice aa l[k].1.attrs.length ca) := (HB.out.cell (p := ⟨g, o + k * 5 + 4, none⟩) hg).trans x4
      have d0 : wr.cell? ⟨g', o' + k * 5, none⟩ = some (.int .i64 l[k].1.level) := (HB.out.cell (p := ⟨g', o' + k * 5, none⟩) hg').trans y0
      have d1 : wr.cell? ⟨g', o' + k * 5 + 1, none⟩ = some (.int .i64 l[k].1.kind) := (HB.out.cell (p := ⟨g', o' + k * 5 + 1, none⟩) hg').trans y1
      have d2 : wr.cell? ⟨g', o' + k * 5 + 2, none⟩ = some (.string l[k].1.name) := (HB.out.cell (p := ⟨g', o' + k * 5 + 2, none⟩) hg').trans y2
      have d3 : wr.cell? ⟨g', o' + k * 5 + 3, none⟩ = some (.string l[k].1.text) := (HB.out.cell (p := ⟨g', o' + k * 5 + 3, none⟩) hg').trans y3
      have d4 : wr.cell? ⟨g', o' + k * 5 + 4, none⟩ = some (.slice ab l[k].1.attrs.length cb) := (HB.out.cell (p := ⟨g', o' + k * 5 + 4, none⟩) hg').trans y4
      have h' : (k : Int) < (l.length : Int) := by omega
      clear c d x0 x1 x2 x3 x4 y0 y1 y2 y3 y4 e1 ea eb hg hg' hne hne' I I' H1 H2
      generalize l[k].1.attrs = ats at *
      generalize l[k].1.level = lv at *
      generalize l[k].1.kind = kd at *
      generalize l[k].1.name = nm at *
      generalize l[k].1.text = tx at *
      generalize ats.length = na at *
      go_wp2_with fail
      go_quiet (first | (go_at_call 42; refine Calls.quiet_of (sameA_quiet _ _ ats _ (A1.out _) (A2.out _))))
      go_wp2
      go_roundw
      case rel => exact ⟨k + 1, by go_num, by omega, hid (below_drewN HB.out _)⟩
      case measure => (simp [intOf]; try omega)
    · have h' : ¬ (k : Int) < (l.length : Int) := by omega
      go_wp2
      go_ret
      exact ⟨rfl, HB.out⟩
end Go.Proofs.YtmnegpdegfianaaDoor
