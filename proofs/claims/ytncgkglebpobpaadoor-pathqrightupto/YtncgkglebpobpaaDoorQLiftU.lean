/- What the reading of an argument that is a row of steps gives the walks in the second form: each part is no longer than the bulk of what was read; and that it reads so again behind a call that leaves old memory alone. -/
import Derived.Test.YtncgkglebpobpaaDoorQFit
import Derived.Test.YtncgkglebpobpaaDoorQLaid
import Derived.Test.YtncgkglebpobpaaDoorTie
import Derived.Test.YtncgkglebpobpaaDoorCards
import Derived.SevenTiedAt
import Derived.Deep.DeepHandedRow
import Derived.Deep.Slices
import Derived.WideKeyArgs
namespace Go.Proofs.YtncgkglebpobpaaDoor
open Go.ChangeShapes Go.WideShapes Go.ChangeAt Go.RowKit Go.Shelf
theorem bulk_in {H : Type} {d : DataW H} {l : List (DataW H)} (h : d ∈ l) : Rows.uptoBulk d ≤ Rows.uptoBulkAll l := by
  induction l with
  | nil => cases h
  | cons y r ih =>
    rw [Rows.uptoBulkAll]
    rcases List.mem_cons.1 h with rfl | e
    · omega
    · have := ih e; omega
theorem bulk_of {H : Type} {len : Nat} {D : Nat → DataW H} {E : List (DataW H)} {i : Nat} (hi : i < len) : Rows.uptoBulk (D i) ≤ Rows.uptoBulk (.slice ((List.range len).map D) E) := by
  have := bulk_in (List.mem_map_of_mem (f := D) (List.mem_range.2 hi))
  rw [Rows.uptoBulk]
  omega
theorem cell_plain {w : World} {a : Addr} {u : Value} (h : w.cell? a = some u) : a = ⟨a.block, a.off, none⟩ ∧ a.block < w.heap.size := by
  unfold World.cell? at h
  split at h
  · rename_i c e f hb
    split at h
    · cases h
    · rename_i hs
      refine ⟨?_, lt_of_block hb⟩
      obtain ⟨b, o, s⟩ := a
      cases s with
      | none => rfl
      | some q => exact absurd rfl hs
  · cases h
theorem add_at {w : World} {a : Addr} {n : Nat} {u : Value} (h0 : a = ⟨a.block, a.off, none⟩) (h : w.cell? (a.add n) = some u) : w.cell? ⟨a.block, a.off + n, none⟩ = some u := by
  rw [h0, Addr.add_lit] at h
  exact h
section
variable {H : Type} {enc : TypeId × Value → H} {W : World}
set_option maxRecDepth 100000 in
theorem open_predU {n : Nat} {cs : List Value} {y : DataW H × List MemPlace} (h : DataW.trod enc Tryd.prog W 0 (fun _ => true) true n 48 cs = some y) : ∃ p : Q.Pred, cs = [.int .i64 p.kind, .int .i64 p.num, .string p.name, .string p.value] ∧ p.name.size ≤ Rows.uptoBulk y.1 ∧ p.value.size ≤ Rows.uptoBulk y.1 := by
  obtain ⟨xs, k, _, rfl, hl, hx, hf⟩ := DataW.trod_struct Tryd.underlying48 h
  have c3 : Tryd.prog.cellsOf 3 = 1 := by kernel_rfl
  have c9 : Tryd.prog.cellsOf 9 = 1 := by kernel_rfl
  have c40 : Tryd.prog.cellsOf 48 = 4 := by kernel_rfl
  rw [c40] at hl
  have hx2 : xs.length = 4 := hx
  match xs, hx2, cs, hl with
  | [y0, y1, y2, y3], _, [v0, v1, v2, v3], _ =>
    have g0 : DataW.trod enc Tryd.prog W 0 (fun _ => true) true k 3 (([v0, v1, v2, v3].drop 0).take (Tryd.prog.cellsOf 3)) = some y0 := hf 0 _ rfl
    have g1 : DataW.trod enc Tryd.prog W 0 (fun _ => true) true k 3 (([v0, v1, v2, v3].drop 1).take (Tryd.prog.cellsOf 3)) = some y1 := hf 1 _ rfl
    have g2 : DataW.trod enc Tryd.prog W 0 (fun _ => true) true k 9 (([v0, v1, v2, v3].drop 2).take (Tryd.prog.cellsOf 9)) = some y2 := hf 2 _ rfl
    have g3 : DataW.trod enc Tryd.prog W 0 (fun _ => true) true k 9 (([v0, v1, v2, v3].drop 3).take (Tryd.prog.cellsOf 9)) = some y3 := hf 3 _ rfl
    rw [c3] at g0 g1
    rw [c9] at g2 g3
    replace g0 : DataW.trod enc Tryd.prog W 0 (fun _ => true) true k 3 [v0] = some y0 := g0
    replace g1 : DataW.trod enc Tryd.prog W 0 (fun _ => true) true k 3 [v1] = some y1 := g1
    replace g2 : DataW.trod enc Tryd.prog W 0 (fun _ => true) true k 9 [v2] = some y2 := g2
    replace g3 : DataW.trod enc Tryd.prog W 0 (fun _ => true) true k 9 [v3] = some y3 := g3
    obtain ⟨z0, e0, _, _⟩ := DataW.trod_int Tryd.underlying3 g0
    obtain ⟨z1, e1, _, _⟩ := DataW.trod_int Tryd.underlying3 g1
    obtain ⟨b2, e2, rfl, _⟩ := DataW.trod_string Tryd.underlying9 g2
    obtain ⟨b3, e3, rfl, _⟩ := DataW.trod_string Tryd.underlying9 g3
    simp only [List.cons.injEq, and_true] at e0 e1 e2 e3
    subst e0 e1 e2 e3
    refine ⟨⟨z0, z1, b2, b3⟩, rfl, ?_, ?_⟩ <;> (simp only [List.map_cons, List.map_nil, Rows.uptoBulk, Rows.uptoBulkAll, Array.length_toList, ByteArray.size_data]; omega)
set_option maxRecDepth 100000 in
theorem open_predsU {n : Nat} {v : Value} {y : DataW H × List MemPlace} (h : DataW.trod enc Tryd.prog W 0 (fun _ => true) true n 40 [v] = some y) : ∃ l : List Q.Pred, PredsIn v l W ∧ ∀ p ∈ l, p.name.size ≤ Rows.uptoBulk y.1 ∧ p.value.size ≤ Rows.uptoBulk y.1 := by
  rcases Deep.open_slice Tryd.underlying40 h with ⟨h0, _⟩ | ⟨a, len, cap, m, n', D, Pl, h0, _, hl, hm, hmm, hY, hx⟩
  · simp only [List.cons.injEq, and_true] at h0
    subst h0
    exact ⟨[], ⟨none, 0, rfl, by simp, by simp⟩, by simp⟩
  · simp only [List.cons.injEq, and_true] at h0
    subst h0
    simp only [if_true] at hmm
    have c40 : Tryd.prog.cellsOf 48 = 4 := by kernel_rfl
    have each : ∀ i, i < len → ∃ q : Q.Pred, (W.cell? (a.add (i * 4)) = some (.int .i64 q.kind) ∧ W.cell? (a.add (i * 4 + 1)) = some (.int .i64 q.num) ∧ W.cell? (a.add (i * 4 + 2)) = some (.string q.name) ∧ W.cell? (a.add (i * 4 + 3)) = some (.string q.value)) ∧ q.name.size ≤ Rows.uptoBulk y.1 ∧ q.value.size ≤ Rows.uptoBulk y.1 := by
      intro i hi
      obtain ⟨cs', h1, h2⟩ := hx i (by omega)
      rw [c40] at h1
      obtain ⟨_, hlen, hcell⟩ := World.cells?_some h1
      obtain ⟨p, rfl, s0, s1⟩ := open_predU h2
      have e0 := hcell 0 (by omega)
      have e1 := hcell 1 (by omega)
      have e2 := hcell 2 (by omega)
      have e3 := hcell 3 (by omega)
      rw [Deep.add_add] at e0 e1 e2 e3
      have hb := bulk_of (E := (List.range (m - len)).map fun j => D (len + j)) (D := D) hi
      rw [hY]
      exact ⟨p, ⟨by simpa using e0, by simpa using e1, by simpa using e2, by simpa using e3⟩, Nat.le_trans s0 hb, Nat.le_trans s1 hb⟩
    refine ⟨List.ofFn (n := len) fun i => Classical.choose (each i.1 i.2), ⟨some a, cap, by simp, by simp; unfold maxLen at hm; omega, fun hne => ?_⟩, ?_⟩
    · have hpos : 0 < len := by
        rcases Nat.eq_zero_or_pos len with rfl | h
        · simp at hne
        · exact h
      obtain ⟨⟨k0, _⟩, _⟩ := Classical.choose_spec (each 0 hpos)
      have k1 : W.cell? a = some (.int .i64 (Classical.choose (each 0 hpos)).kind) := by simpa [Addr.add] using k0
      obtain ⟨ea, hlt⟩ := cell_plain k1
      refine ⟨a.block, a.off, by rw [← ea], hlt, fun j hj => ?_⟩
      have hj' : j < len := by simpa using hj
      obtain ⟨⟨q0, q1, q2, q3⟩, _⟩ := Classical.choose_spec (each j hj')
      rw [List.getElem_ofFn]
      exact ⟨add_at ea q0, by rw [Nat.add_assoc]; exact add_at ea q1, by rw [Nat.add_assoc]; exact add_at ea q2, by rw [Nat.add_assoc]; exact add_at ea q3⟩
    · intro x hx
      obtain ⟨i, rfl⟩ := List.mem_ofFn.1 hx
      exact (Classical.choose_spec (each i.1 i.2)).2
set_option maxRecDepth 100000 in
theorem open_stepU {n : Nat} {cs : List Value} {y : DataW H × List MemPlace} (h : DataW.trod enc Tryd.prog W 0 (fun _ => true) true n 42 cs = some y) :
    ∃ x : SV, cs = [.int .i64 x.1.axis, .int .i64 x.1.test, .string x.1.name, x.2] ∧ PredsIn x.2 x.1.preds W ∧ FitS (Rows.uptoBulk y.1) x.1 := by
  obtain ⟨xs, k, _, rfl, hl, hx, hf⟩ := DataW.trod_struct Tryd.underlying42 h
  have c3 : Tryd.prog.cellsOf 3 = 1 := by kernel_rfl
  have c9 : Tryd.prog.cellsOf 9 = 1 := by kernel_rfl
  have c25 : Tryd.prog.cellsOf 40 = 1 := by kernel_rfl
  have c49 : Tryd.prog.cellsOf 42 = 4 := by kernel_rfl
  rw [c49] at hl
  have hx2 : xs.length = 4 := hx
  match xs, hx2, cs, hl with
  | [y0, y1, y2, y3], _, [v0, v1, v2, v3], _ =>
    have g0 : DataW.trod enc Tryd.prog W 0 (fun _ => true) true k 3 (([v0, v1, v2, v3].drop 0).take (Tryd.prog.cellsOf 3)) = some y0 := hf 0 _ rfl
    have g1 : DataW.trod enc Tryd.prog W 0 (fun _ => true) true k 3 (([v0, v1, v2, v3].drop 1).take (Tryd.prog.cellsOf 3)) = some y1 := hf 1 _ rfl
    have g2 : DataW.trod enc Tryd.prog W 0 (fun _ => true) true k 9 (([v0, v1, v2, v3].drop 2).take (Tryd.prog.cellsOf 9)) = some y2 := hf 2 _ rfl
    have g3 : DataW.trod enc Tryd.prog W 0 (fun _ => true) true k 40 (([v0, v1, v2, v3].drop 3).take (Tryd.prog.cellsOf 40)) = some y3 := hf 3 _ rfl
    rw [c3] at g0 g1
    rw [c9] at g2
    rw [c25] at g3
    replace g0 : DataW.trod enc Tryd.prog W 0 (fun _ => true) true k 3 [v0] = some y0 := g0
    replace g1 : DataW.trod enc Tryd.prog W 0 (fun _ => true) true k 3 [v1] = some y1 := g1
    replace g2 : DataW.trod enc Tryd.prog W 0 (fun _ => true) true k 9 [v2] = some y2 := g2
    replace g3 : DataW.trod enc Tryd.prog W 0 (fun _ => true) true k 40 [v3] = some y3 := g3
    obtain ⟨z0, e0, _, _⟩ := DataW.trod_int Tryd.underlying3 g0
    obtain ⟨z1, e1, _, _⟩ := DataW.trod_int Tryd.underlying3 g1
    obtain ⟨b2, e2, rfl, _⟩ := DataW.trod_string Tryd.underlying9 g2
    obtain ⟨l, hA, hS⟩ := open_predsU g3
    simp only [List.cons.injEq, and_true] at e0 e1 e2
    subst e0 e1 e2
    have hbig : b2.size ≤ Rows.uptoBulk (DataW.agg (H := H) ([y0, y1, (.lit (.string b2.data.toList), []), y3].map (·.1))) ∧ Rows.uptoBulk y3.1 ≤ Rows.uptoBulk (DataW.agg (H := H) ([y0, y1, (.lit (.string b2.data.toList), []), y3].map (·.1))) := by
      refine ⟨?_, ?_⟩ <;> (simp only [List.map_cons, List.map_nil, Rows.uptoBulk, Rows.uptoBulkAll, Array.length_toList, ByteArray.size_data]; omega)
    exact ⟨(⟨z0, z1, b2, l⟩, v3), rfl, hA, hbig.1, fun a ha => ⟨Nat.le_trans (hS a ha).1 hbig.2, Nat.le_trans (hS a ha).2 hbig.2⟩⟩
set_option maxRecDepth 100000 in
theorem open_stepsU {base : Nat} {v : Value} {d : DataW H} {ps : List MemPlace} (hval : Value.okWide Tryd.prog W .any base 22 v) (h : DataW.Trod enc Tryd.prog W 0 (fun _ => true) true 22 v d ps) :
    ∃ l : List SV, StepsIn v l W ∧ ∀ x ∈ l, FitS (Rows.uptoBulk d) x.1 := by
  obtain ⟨ao, len0, cap0, rfl⟩ := okWide_slice Tryd.underlying22 hval
  obtain ⟨fuel, hf⟩ := h
  have hf' : DataW.trod enc Tryd.prog W 0 (fun _ => true) true fuel 22 [.slice ao len0 cap0] = some (d, ps) := by simpa [Value.cells] using hf
  rcases Deep.open_slice Tryd.underlying22 hf' with ⟨h0, _⟩ | ⟨a, len, cap, m, n', D, Pl, h0, _, hl, hm, hmm, hY, hx⟩
  · simp only [List.cons.injEq, and_true] at h0
    rw [h0]
    exact ⟨[], ⟨⟨none, 0, rfl, by simp, by simp⟩, by simp⟩, by simp⟩
  · simp only [List.cons.injEq, and_true] at h0
    rw [h0]
    simp only [if_true] at hmm
    have c49 : Tryd.prog.cellsOf 42 = 4 := by kernel_rfl
    have each : ∀ i, i < len → ∃ q : SV, (W.cell? (a.add (i * 4)) = some (.int .i64 q.1.axis) ∧ W.cell? (a.add (i * 4 + 1)) = some (.int .i64 q.1.test) ∧ W.cell? (a.add (i * 4 + 2)) = some (.string q.1.name) ∧ W.cell? (a.add (i * 4 + 3)) = some q.2) ∧ PredsIn q.2 q.1.preds W ∧ FitS (Rows.uptoBulk d) q.1 := by
      intro i hi
      obtain ⟨cs', h1, h2⟩ := hx i (by omega)
      rw [c49] at h1
      obtain ⟨_, hlen, hcell⟩ := World.cells?_some h1
      obtain ⟨x, rfl, hA, hF⟩ := open_stepU h2
      have e0 := hcell 0 (by omega)
      have e1 := hcell 1 (by omega)
      have e2 := hcell 2 (by omega)
      have e3 := hcell 3 (by omega)
      rw [Deep.add_add] at e0 e1 e2 e3
      exact ⟨x, ⟨by simpa using e0, by simpa using e1, by simpa using e2, by simpa using e3⟩, hA, hF.mono (by
        have hb := bulk_of (E := (List.range (m - len)).map fun j => D (len + j)) (D := D) hi
        rw [show d = _ from congrArg Prod.fst hY]
        exact hb)⟩
    refine ⟨List.ofFn (n := len) fun i => Classical.choose (each i.1 i.2), ⟨⟨some a, cap, by simp, by simp; unfold maxLen at hm; omega, fun hne => ?_⟩, ?_⟩, ?_⟩
    · have hpos : 0 < len := by
        rcases Nat.eq_zero_or_pos len with rfl | h
        · simp at hne
        · exact h
      obtain ⟨⟨k0, _⟩, _⟩ := Classical.choose_spec (each 0 hpos)
      have k1 : W.cell? a = some (.int .i64 (Classical.choose (each 0 hpos)).1.axis) := by simpa [Addr.add] using k0
      obtain ⟨ea, hlt⟩ := cell_plain k1
      refine ⟨a.block, a.off, by rw [← ea], hlt, fun j hj => ?_⟩
      have hj' : j < len := by simpa using hj
      obtain ⟨⟨q0, q1, q2, q3⟩, _⟩ := Classical.choose_spec (each j hj')
      rw [List.getElem_ofFn]
      exact ⟨add_at ea q0, by rw [Nat.add_assoc]; exact add_at ea q1, by rw [Nat.add_assoc]; exact add_at ea q2, by rw [Nat.add_assoc]; exact add_at ea q3⟩
    · intro x hx
      obtain ⟨i, rfl⟩ := List.mem_ofFn.1 hx
      exact (Classical.choose_spec (each i.1 i.2)).2.1
    · intro x hx
      obtain ⟨i, rfl⟩ := List.mem_ofFn.1 hx
      exact (Classical.choose_spec (each i.1 i.2)).2.2
theorem laidOutU : laidOutB Tryd.prog = true := by kernel_rfl
/-- An argument that reads as something reads so again. -/
theorem again_items {t : TypeId} (hr : Tryd.prog.readableRec t = true) (ht : t < Tryd.prog.types.size) {v : Value} {d : DataW H} {ps : List MemPlace} (h : DataW.Trod enc Tryd.prog W 0 (fun _ => true) true t v d ps) (hlt : ∀ p ∈ ps, p.block < W.heap.size) {W' : World} (hb : Below W.heap.size W W') :
    DataW.Trod enc Tryd.prog W' 0 (fun b => decide (b < W.heap.size)) true t v d ps :=
  WideElems.Trod_stays laidOutU hr ht h (fun p hp => hb.same (hlt p hp)) (fun p hp => by simpa using hlt p hp)
theorem trod_lt {t : TypeId} {v : Value} {d : DataW H} {ps : List MemPlace} (h : DataW.Trod enc Tryd.prog W 0 (fun _ => true) true t v d ps) : ∀ p ∈ ps, p.block < W.heap.size :=
  DataW.TrodAll.lt (trodAll_mk1 h)
end
end Go.Proofs.YtncgkglebpobpaaDoor
