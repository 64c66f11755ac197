/- The walks of the document's own Same and SameAttrs at two tokens with the same parts. -/
import Derived.Test.YtafjffnijonglaaDoorLAlive
namespace Go.Proofs.YtafjffnijonglaaDoor
open Go.RowKit Go.Shelf
theorem att_cells {base : Nat} {l : List L.Attr} {w : World} {g cap : Nat} (h : w.ownsRow base 40 2 (.slice (some ⟨g, 0, none⟩) l.length cap) l.length (encL l)) (j : Nat) (hj : j < l.length) :
    w.cell? ⟨g, j * 2, none⟩ = some (.string l[j].1) ∧ w.cell? ⟨g, j * 2 + 1, none⟩ = some (.string l[j].2) := by
  obtain ⟨h0, h1⟩ := encL_at l j hj
  have c := fun q hq => World.ownsRow.cellAt h q hq
  exact ⟨by rw [c _ (by omega)]; exact h0, by rw [c _ (by omega)]; exact h1⟩
theorem att_len {base : Nat} {v : Value} {l : List L.Attr} {w : World} (h : w.ownsRow base 40 2 v l.length (encL l)) : ∃ ao cp, v = .slice ao l.length cp := by
  rcases h.2 with ⟨h, h'⟩ | ⟨_, _, _, h, _⟩
  · exact ⟨none, 0, by rw [h, h']⟩
  · exact ⟨_, _, h⟩
set_option maxRecDepth 100000 in
set_option maxHeartbeats 1000000 in
theorem sameA_any (v v' : Value) (l : List L.Attr) (w : World) (b1 b2 : Nat) (h1 : w.ownsRow b1 40 2 v l.length (encL l)) (h2 : w.ownsRow b2 40 2 v' l.length (encL l)) (hl : l.length ≤ 20) :
    Calls Tryd.prog 24 #[v, v'] w fun e w' => e = .returned (.bool true) ∧ Below w.heap.size w w' := by
  obtain ⟨ao, cp, rfl⟩ := att_len h1
  obtain ⟨ao', cp', rfl⟩ := att_len h2
  have H1 := hid h1
  have H2 := hid h2
  clear h1 h2
  go_enter Tryd.func24, Tryd.ntmps24
  go_wp2
  go_loopw [5] (fun v5 W => ∃ (k m : Nat), v5 = .int .i64 (k : Int) ∧ k ≤ l.length ∧ W = w.drewN m) (fun v5 _ => l.length - (intOf v5).toNat)
  case atStart => exact ⟨0, 0, rfl, by omega, rfl⟩
  case round =>
    obtain ⟨k, m, rfl, hk, rfl⟩ := hrel
    by_cases h : k < l.length
    · obtain ⟨g, cap, e1, _⟩ := att_form H1.out (by intro q; rw [q] at h; simp at h)
      obtain ⟨g', cap', e2, _⟩ := att_form H2.out (by intro q; rw [q] at h; simp at h)
      simp only [Value.slice.injEq, true_and] at e1 e2
      obtain ⟨rfl, rfl⟩ := e1
      obtain ⟨rfl, rfl⟩ := e2
      obtain ⟨c0, c1⟩ := att_cells H1.out k h
      obtain ⟨d0, d1⟩ := att_cells H2.out k h
      have h' : (k : Int) < (l.length : Int) := by omega
      generalize l[k].1 = x at *
      generalize l[k].2 = y at *
      go_wp2_with fail
      go_quiet (fail)
      go_wp2
      go_roundw
      case rel => exact ⟨k + 1, _, by go_num, by omega, rfl⟩
      case measure => simp [intOf]; omega
    · have h' : ¬ (k : Int) < (l.length : Int) := by omega
      go_wp2
      go_ret
      exact ⟨rfl, ⟨rfl, rfl, rfl, Nat.le_refl _, fun _ _ => rfl⟩⟩
set_option maxRecDepth 100000 in
set_option maxHeartbeats 1000000 in
theorem same_any (t : L.Tok) (v v' : Value) (w : World) (b1 b2 : Nat) (h1 : w.ownsRow b1 40 2 v t.attrs.length (encL t.attrs)) (h2 : w.ownsRow b2 40 2 v' t.attrs.length (encL t.attrs)) (hl : t.attrs.length ≤ 20) :
    Calls Tryd.prog 11 #[tokV t v, tokV t v'] w fun e w' => e = .returned (.bool true) ∧ Below w.heap.size w w' := by
  obtain ⟨kd, ps, nm, tx, ats⟩ := t
  dsimp only at *
  obtain ⟨ao, cp, rfl⟩ := att_len h1
  obtain ⟨ao', cp', rfl⟩ := att_len h2
  have H1 := hid h1
  have H2 := hid h2
  clear h1 h2
  unfold tokV
  go_enter Tryd.func11, Tryd.ntmps11
  go_wp2_with fail
  refine Calls.mono (sameA_any _ _ ats _ b1 b2 (World.ownsRow.alloc (World.ownsRow.alloc H1.out _) _) (World.ownsRow.alloc (World.ownsRow.alloc H2.out _) _) hl) ?_
  rintro e w2 ⟨rfl, hb2⟩
  have HB := hid (((Below.refl w.heap.size w).alloc (Nat.le_refl _) (.cells #[.int .i64 kd, .int .i64 (ps : Int), .string nm, .string tx, .slice ao ats.length cp] 32)).alloc (by simp) (.cells #[.int .i64 kd, .int .i64 (ps : Int), .string nm, .string tx, .slice ao' ats.length cp'] 32) |>.trans (hb2.mono (by simp; omega)))
  clear hb2
  go_wp2
  go_ret
  exact ⟨rfl, HB.out⟩

end Go.Proofs.YtafjffnijonglaaDoor
