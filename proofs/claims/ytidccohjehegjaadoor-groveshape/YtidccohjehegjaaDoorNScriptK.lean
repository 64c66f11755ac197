/- Scripts in memory; the walk of the statements' own 'few'. -/
import Derived.Test.YtidccohjehegjaaDoorNDoK
namespace Go.Proofs.YtidccohjehegjaaDoor
open Go.RowKit Go.Shelf
namespace N
open T
/-- Calls in memory. -/
def OpsIn (V : Value) (l : List OV) (w : World) : Prop :=
  (∃ ao cap, V = .slice ao l.length cap ∧ l.length ≤ 9223372036854775807 ∧ (l ≠ [] → ∃ g o, ao = some ⟨g, o, none⟩ ∧ g < w.heap.size ∧ ∀ j (h : j < l.length), w.cell? ⟨g, o + j * 7, none⟩ = some (.int .i64 l[j].k) ∧ w.cell? ⟨g, o + j * 7 + 1, none⟩ = some (.int .i64 l[j].id) ∧ w.cell? ⟨g, o + j * 7 + 2, none⟩ = some (.int .i64 l[j].to') ∧ w.cell? ⟨g, o + j * 7 + 3, none⟩ = some (.int .i64 l[j].at') ∧ w.cell? ⟨g, o + j * 7 + 4, none⟩ = some (.string l[j].nm) ∧ w.cell? ⟨g, o + j * 7 + 5, none⟩ = some (.string l[j].tx) ∧ w.cell? ⟨g, o + j * 7 + 6, none⟩ = some l[j].v)) ∧
  ∀ x ∈ l, ItemsIn x.v x.l w
theorem OpsIn.below {V : Value} {l : List OV} {w w' : World} (h : OpsIn V l w) (hb : Below w.heap.size w w') : OpsIn V l w' := by
  refine ⟨?_, fun x hx => (h.2 x hx).below hb⟩
  obtain ⟨ao, cap, h1, h2, h3⟩ := h.1
  refine ⟨ao, cap, h1, h2, fun hl => ?_⟩
  obtain ⟨g, o, h4, h5, h6⟩ := h3 hl
  refine ⟨g, o, h4, Nat.lt_of_lt_of_le h5 hb.size, fun j hj => ?_⟩
  obtain ⟨k0, k1, k2, k3, k4, k5, k6⟩ := h6 j hj
  exact ⟨(hb.cell (p := ⟨g, _, none⟩) h5).trans k0, (hb.cell (p := ⟨g, _, none⟩) h5).trans k1, (hb.cell (p := ⟨g, _, none⟩) h5).trans k2, (hb.cell (p := ⟨g, _, none⟩) h5).trans k3, (hb.cell (p := ⟨g, _, none⟩) h5).trans k4, (hb.cell (p := ⟨g, _, none⟩) h5).trans k5, (hb.cell (p := ⟨g, _, none⟩) h5).trans k6⟩
/-- The cells of one call. -/
def cellsO (o : OV) : Array Value := #[.int .i64 o.k, .int .i64 o.id, .int .i64 o.to', .int .i64 o.at', .string o.nm, .string o.tx, o.v]
section
variable {w : World}
set_option maxRecDepth 100000 in
set_option maxHeartbeats 4000000 in
theorem few_any (V : Value) (l : List OV) (I : Hid (OpsIn V l w)) : Calls Tryd.prog 7 #[V] w fun e w' => ∃ v, e = .returned v ∧ (v = .bool true ∨ v = .bool false) ∧ Below w.heap.size w w' := by
  obtain ⟨ao, cap, rfl, hl, hc⟩ := I.out.1
  have HC := hid hc
  clear hc
  go_enter Tryd.func7, Tryd.ntmps7
  go_wp2
  go_loopw [3, 8] (fun v3 v8 X => ∃ (n : Int) (q : Nat), v3 = .int .i64 n ∧ v8 = .int .i64 (q : Int) ∧ q ≤ l.length ∧ Hid (Below w.heap.size w X)) (fun _ v8 _ => l.length - (intOf v8).toNat)
  case atStart => exact ⟨0, 0, rfl, rfl, by omega, hid (Below.refl _ _)⟩
  case round =>
    obtain ⟨n, q, rfl, rfl, hq, HG⟩ := hrel
    by_cases h1 : q < l.length
    · have h1' : (q : Int) < (l.length : Int) := by omega
      obtain ⟨g, o, rfl, hg, hcc⟩ := HC.out (by rintro rfl; simp at h1)
      obtain ⟨k0, k1, k2, k3, k4, k5, k6⟩ := hcc q h1
      have hB := HG.out
      have c0 := (hB.cell (p := ⟨g, o + q * 7, none⟩) hg).trans k0
      have c1 := (hB.cell (p := ⟨g, o + q * 7 + 1, none⟩) hg).trans k1
      have c2 := (hB.cell (p := ⟨g, o + q * 7 + 2, none⟩) hg).trans k2
      have c3 := (hB.cell (p := ⟨g, o + q * 7 + 3, none⟩) hg).trans k3
      have c4 := (hB.cell (p := ⟨g, o + q * 7 + 4, none⟩) hg).trans k4
      have c5 := (hB.cell (p := ⟨g, o + q * 7 + 5, none⟩) hg).trans k5
      have c6 := (hB.cell (p := ⟨g, o + q * 7 + 6, none⟩) hg).trans k6
      obtain ⟨aa, ac, hv, hlx, _⟩ := (I.out.2 l[q] (List.getElem_mem h1)).1
      have HB5 := hid (hB.alloc hB.size (.cells (cellsO l[q]) 29))
      rw [hv] at c6
      unfold cellsO at HB5
      rw [hv] at HB5
      generalize l[q] = x at *
      clear hcc k0 k1 k2 k3 k4 k5 k6 hB
      go_wp2
      go_roundw
      case rel => exact ⟨_, q + 1, rfl, by go_num, by omega, HB5⟩
      case measure => (simp [intOf]; try omega)
    · obtain rfl : q = l.length := by omega
      have h1' : ¬ (l.length : Int) < (l.length : Int) := by omega
      by_cases h2 : l.length ≤ 80
      · have h2' : (l.length : Int) ≤ 80 := by omega
        by_cases h3 : n ≤ 2500
        · go_wp2
          go_ret
          exact ⟨_, rfl, Or.inl rfl, HG.out⟩
        · go_wp2
          go_ret
          exact ⟨_, rfl, Or.inr rfl, HG.out⟩
      · have h2' : ¬ (l.length : Int) ≤ 80 := by omega
        go_wp2
        go_ret
        exact ⟨_, rfl, Or.inr rfl, HG.out⟩
end
end N
end Go.Proofs.YtidccohjehegjaaDoor
