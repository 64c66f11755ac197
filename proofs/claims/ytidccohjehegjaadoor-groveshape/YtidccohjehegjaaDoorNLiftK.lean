/- What the reading of an argument that is a script gives the walks. -/
import Derived.Test.YtidccohjehegjaaDoorNAliveK
import Derived.Test.YtidccohjehegjaaDoorPLiftK
import Derived.SizedLaws
namespace Go.Proofs.YtidccohjehegjaaDoor
open Go.ChangeShapes Go.WideShapes Go.ChangeAt Go.RowKit Go.Shelf
namespace N
section
variable {H : Type} {enc : TypeId × Value → H} {W : World}
theorem weights_all {P : Program} {e : TypeId} {n : Nat} {d : DataW H} : ∀ {l : List (DataW H)}, d ∈ l → n ∈ d.weights P e → n ∈ DataW.weightsAll P e l
  | x :: r, h, hn => by
    rw [DataW.weightsAll, List.mem_append]
    rcases List.mem_cons.1 h with q | q
    · rw [← q]; exact Or.inl hn
    · exact Or.inr (weights_all q hn)
/-- All that a datum weighs is within reach. -/
def Near (P : Program) (t : TypeId) (d : DataW H) : Prop := ∀ n ∈ d.weights P t, n ≤ reachBytes
theorem Near.elem {P : Program} {t e : TypeId} {elems spare : List (DataW H)} (h : Near P t (.slice elems spare)) (hu : P.underlying t = some (.slice e)) {d : DataW H} (hd : d ∈ elems) : Near P e d := fun n hn => h n (by
  rw [DataW.weights, hu]
  simp only [List.mem_cons, List.mem_append]
  exact Or.inr (Or.inl (weights_all hd hn)))
theorem Near.size {P : Program} {t e : TypeId} {elems spare : List (DataW H)} (h : Near P t (.slice elems spare)) (hu : P.underlying t = some (.slice e)) : (elems.length + spare.length) * P.bytesOf e ≤ reachBytes := h _ (by
  rw [DataW.weights, hu]
  exact List.mem_cons_self ..)
theorem near_of {P : Program} {ts : List TypeId} {ds : List (DataW H)} (h : (DataW.weightsEach P ts ds).all (· ≤ reachBytes) = true) {j : Nat} {t : TypeId} {d : DataW H} (ht : ts[j]? = some t) (hd : ds[j]? = some d) : Near P t d := fun n hn => by
  have := List.all_eq_true.1 h n (DataW.weights_mem_each ht hd n hn)
  simpa using this
set_option maxRecDepth 100000 in
theorem open_items0 {n : Nat} {v : Value} {y : DataW H × List MemPlace} (h : DataW.trod enc Tryd.prog W 0 (fun _ => true) true n 27 [v] = some y) (hr : Near Tryd.prog 27 y.1) :
    ∃ l : List IV, ItemsIn v l W ∧ (∀ x ∈ l, FitI x.1) ∧ l.length ≤ 140737488355328 := by
  rcases Deep.open_slice Tryd.underlying27 h with ⟨h0, _⟩ | ⟨a, len, cap, m, n', D, Pl, h0, _, hl, hm, hmm, hY, hx⟩
  · simp only [List.cons.injEq, and_true] at h0
    rw [h0]
    exact ⟨[], ⟨⟨none, 0, rfl, by simp, by simp⟩, by simp⟩, by simp, by simp⟩
  · simp only [List.cons.injEq, and_true] at h0
    rw [h0]
    simp only [if_true] at hmm
    have c49 : Tryd.prog.cellsOf 49 = 5 := by kernel_rfl
    have b49 : Tryd.prog.bytesOf 49 = 72 := by kernel_rfl
    have hz := Near.size (by rw [hY] at hr; exact hr) Tryd.underlying27
    rw [b49, List.length_map, List.length_range] at hz
    have hrb : reachBytes < 2 ^ 47 := reachBytes_lt
    have each : ∀ i, i < len → ∃ q : IV, (W.cell? (a.add (i * 5)) = some (.int .i64 q.1.level) ∧ W.cell? (a.add (i * 5 + 1)) = some (.int .i64 q.1.kind) ∧ W.cell? (a.add (i * 5 + 2)) = some (.string q.1.name) ∧ W.cell? (a.add (i * 5 + 3)) = some (.string q.1.text) ∧ W.cell? (a.add (i * 5 + 4)) = some q.2) ∧ AttrsIn q.2 q.1.attrs W ∧ FitI q.1 := by
      intro i hi
      obtain ⟨cs', h1, h2⟩ := hx i (by omega)
      rw [c49] at h1
      obtain ⟨_, hlen, hcell⟩ := World.cells?_some h1
      obtain ⟨x, rfl, hA, hF⟩ := open_item h2
      have e0 := hcell 0 (by omega)
      have e1 := hcell 1 (by omega)
      have e2 := hcell 2 (by omega)
      have e3 := hcell 3 (by omega)
      have e4 := hcell 4 (by omega)
      rw [Deep.add_add] at e0 e1 e2 e3 e4
      exact ⟨x, ⟨by simpa using e0, by simpa using e1, by simpa using e2, by simpa using e3, by simpa using e4⟩, hA, hF⟩
    refine ⟨List.ofFn (n := len) fun i => Classical.choose (each i.1 i.2), ⟨⟨some a, cap, by simp, by simp; unfold maxLen at hm; omega, fun hne => ?_⟩, ?_⟩, ?_, by simp; omega⟩
    · have hpos : 0 < len := by
        rcases Nat.eq_zero_or_pos len with rfl | h
        · simp at hne
        · exact h
      obtain ⟨⟨k0, _⟩, _⟩ := Classical.choose_spec (each 0 hpos)
      have k1 : W.cell? a = some (.int .i64 (Classical.choose (each 0 hpos)).1.level) := by simpa [Addr.add] using k0
      obtain ⟨ea, hlt⟩ := cell_plain k1
      refine ⟨a.block, a.off, by rw [← ea], hlt, fun j hj => ?_⟩
      have hj' : j < len := by simpa using hj
      obtain ⟨⟨q0, q1, q2, q3, q4⟩, _⟩ := Classical.choose_spec (each j hj')
      rw [List.getElem_ofFn]
      exact ⟨add_at ea q0, by rw [Nat.add_assoc]; exact add_at ea q1, by rw [Nat.add_assoc]; exact add_at ea q2, by rw [Nat.add_assoc]; exact add_at ea q3, by rw [Nat.add_assoc]; exact add_at ea q4⟩
    · intro x hx
      obtain ⟨i, rfl⟩ := List.mem_ofFn.1 hx
      exact (Classical.choose_spec (each i.1 i.2)).2.1
    · intro x hx
      obtain ⟨i, rfl⟩ := List.mem_ofFn.1 hx
      exact (Classical.choose_spec (each i.1 i.2)).2.2
set_option maxRecDepth 100000 in
theorem open_op {n : Nat} {cs : List Value} {y : DataW H × List MemPlace} (h : DataW.trod enc Tryd.prog W 0 (fun _ => true) true n 29 cs = some y) (hr : Near Tryd.prog 29 y.1) :
    ∃ o : OV, cs = (cellsO o).toList ∧ ItemsIn o.v o.l W ∧ FitO o := by
  obtain ⟨xs, k, _, rfl, hl, hx, hf⟩ := DataW.trod_struct Tryd.underlying29 h
  have c3 : Tryd.prog.cellsOf 3 = 1 := by kernel_rfl
  have c9 : Tryd.prog.cellsOf 9 = 1 := by kernel_rfl
  have c27 : Tryd.prog.cellsOf 27 = 1 := by kernel_rfl
  have c29 : Tryd.prog.cellsOf 29 = 7 := by kernel_rfl
  rw [c29] at hl
  have hx2 : xs.length = 7 := hx
  match xs, hx2, cs, hl with
  | [y0, y1, y2, y3, y4, y5, y6], _, [v0, v1, v2, v3, v4, v5, v6], _ =>
    have g0 : DataW.trod enc Tryd.prog W 0 (fun _ => true) true k 3 (([v0, v1, v2, v3, v4, v5, v6].drop 0).take (Tryd.prog.cellsOf 3)) = some y0 := hf 0 _ rfl
    have g1 : DataW.trod enc Tryd.prog W 0 (fun _ => true) true k 3 (([v0, v1, v2, v3, v4, v5, v6].drop 1).take (Tryd.prog.cellsOf 3)) = some y1 := hf 1 _ rfl
    have g2 : DataW.trod enc Tryd.prog W 0 (fun _ => true) true k 3 (([v0, v1, v2, v3, v4, v5, v6].drop 2).take (Tryd.prog.cellsOf 3)) = some y2 := hf 2 _ rfl
    have g3 : DataW.trod enc Tryd.prog W 0 (fun _ => true) true k 3 (([v0, v1, v2, v3, v4, v5, v6].drop 3).take (Tryd.prog.cellsOf 3)) = some y3 := hf 3 _ rfl
    have g4 : DataW.trod enc Tryd.prog W 0 (fun _ => true) true k 9 (([v0, v1, v2, v3, v4, v5, v6].drop 4).take (Tryd.prog.cellsOf 9)) = some y4 := hf 4 _ rfl
    have g5 : DataW.trod enc Tryd.prog W 0 (fun _ => true) true k 9 (([v0, v1, v2, v3, v4, v5, v6].drop 5).take (Tryd.prog.cellsOf 9)) = some y5 := hf 5 _ rfl
    have g6 : DataW.trod enc Tryd.prog W 0 (fun _ => true) true k 27 (([v0, v1, v2, v3, v4, v5, v6].drop 6).take (Tryd.prog.cellsOf 27)) = some y6 := hf 6 _ rfl
    rw [c3] at g0 g1 g2 g3
    rw [c9] at g4 g5
    rw [c27] at g6
    replace g0 : DataW.trod enc Tryd.prog W 0 (fun _ => true) true k 3 [v0] = some y0 := g0
    replace g1 : DataW.trod enc Tryd.prog W 0 (fun _ => true) true k 3 [v1] = some y1 := g1
    replace g2 : DataW.trod enc Tryd.prog W 0 (fun _ => true) true k 3 [v2] = some y2 := g2
    replace g3 : DataW.trod enc Tryd.prog W 0 (fun _ => true) true k 3 [v3] = some y3 := g3
    replace g4 : DataW.trod enc Tryd.prog W 0 (fun _ => true) true k 9 [v4] = some y4 := g4
    replace g5 : DataW.trod enc Tryd.prog W 0 (fun _ => true) true k 9 [v5] = some y5 := g5
    replace g6 : DataW.trod enc Tryd.prog W 0 (fun _ => true) true k 27 [v6] = some y6 := g6
    obtain ⟨z0, e0, _, s0⟩ := DataW.trod_int Tryd.underlying3 g0
    obtain ⟨z1, e1, _, s1⟩ := DataW.trod_int Tryd.underlying3 g1
    obtain ⟨z2, e2, _, s2⟩ := DataW.trod_int Tryd.underlying3 g2
    obtain ⟨z3, e3, _, s3⟩ := DataW.trod_int Tryd.underlying3 g3
    obtain ⟨b4, e4, _, s4⟩ := DataW.trod_string Tryd.underlying9 g4
    obtain ⟨b5, e5, _, s5⟩ := DataW.trod_string Tryd.underlying9 g5
    have hr6 : Near Tryd.prog 27 y6.1 := fun n hn => hr n (by
      rw [DataW.weights, Tryd.underlying29]
      exact DataW.weights_mem_each (j := 6) (t := 27) (d := y6.1) rfl rfl n hn)
    obtain ⟨l, hA, hS, hL⟩ := open_items0 g6 hr6
    simp only [List.cons.injEq, and_true] at e0 e1 e2 e3 e4 e5
    subst e0 e1 e2 e3 e4 e5
    exact ⟨⟨z0, z1, z2, z3, b4, b5, l, v6⟩, rfl, hA, ⟨⟨s0, s1, s2, s3⟩, ⟨s4, s5⟩, hL, hS⟩⟩
set_option maxRecDepth 100000 in
theorem open_ops {base : Nat} {v : Value} {d : DataW H} {ps : List MemPlace} (hval : Value.okWide Tryd.prog W .any base 22 v) (h : DataW.Trod enc Tryd.prog W 0 (fun _ => true) true 22 v d ps) (hr : Near Tryd.prog 22 d) :
    ∃ l : List OV, OpsIn v l W ∧ ∀ o ∈ l, FitO o := by
  obtain ⟨ao, len0, cap0, rfl⟩ := okWide_slice Tryd.underlying22 hval
  obtain ⟨fuel, hf⟩ := h
  have hf' : DataW.trod enc Tryd.prog W 0 (fun _ => true) true fuel 22 [.slice ao len0 cap0] = some (d, ps) := by simpa [Value.cells] using hf
  rcases Deep.open_slice Tryd.underlying22 hf' with ⟨h0, _⟩ | ⟨a, len, cap, m, n', D, Pl, h0, _, hl, hm, hmm, hY, hx⟩
  · simp only [List.cons.injEq, and_true] at h0
    rw [h0]
    exact ⟨[], ⟨⟨none, 0, rfl, by simp, by simp⟩, by simp⟩, by simp⟩
  · simp only [List.cons.injEq, and_true] at h0
    rw [h0]
    simp only [if_true] at hmm
    have c29 : Tryd.prog.cellsOf 29 = 7 := by kernel_rfl
    have hd : d = .slice ((List.range len).map D) ((List.range (m - len)).map fun j => D (len + j)) := congrArg Prod.fst hY
    rw [hd] at hr
    have each : ∀ i, i < len → ∃ q : OV, (W.cell? (a.add (i * 7)) = some (.int .i64 q.k) ∧ W.cell? (a.add (i * 7 + 1)) = some (.int .i64 q.id) ∧ W.cell? (a.add (i * 7 + 2)) = some (.int .i64 q.to') ∧ W.cell? (a.add (i * 7 + 3)) = some (.int .i64 q.at') ∧ W.cell? (a.add (i * 7 + 4)) = some (.string q.nm) ∧ W.cell? (a.add (i * 7 + 5)) = some (.string q.tx) ∧ W.cell? (a.add (i * 7 + 6)) = some q.v) ∧ ItemsIn q.v q.l W ∧ FitO q := by
      intro i hi
      obtain ⟨cs', h1, h2⟩ := hx i (by omega)
      rw [c29] at h1
      obtain ⟨_, hlen, hcell⟩ := World.cells?_some h1
      obtain ⟨x, rfl, hA, hF⟩ := open_op h2 (hr.elem Tryd.underlying22 (List.mem_map_of_mem (List.mem_range.2 hi)))
      have e0 := hcell 0 (by omega)
      have e1 := hcell 1 (by omega)
      have e2 := hcell 2 (by omega)
      have e3 := hcell 3 (by omega)
      have e4 := hcell 4 (by omega)
      have e5 := hcell 5 (by omega)
      have e6 := hcell 6 (by omega)
      rw [Deep.add_add] at e0 e1 e2 e3 e4 e5 e6
      exact ⟨x, ⟨by simpa [cellsO] using e0, by simpa [cellsO] using e1, by simpa [cellsO] using e2, by simpa [cellsO] using e3, by simpa [cellsO] using e4, by simpa [cellsO] using e5, by simpa [cellsO] using e6⟩, hA, hF⟩
    refine ⟨List.ofFn (n := len) fun i => Classical.choose (each i.1 i.2), ⟨⟨some a, cap, by simp, by simp; unfold maxLen at hm; omega, fun hne => ?_⟩, ?_⟩, ?_⟩
    · have hpos : 0 < len := by
        rcases Nat.eq_zero_or_pos len with rfl | h
        · simp at hne
        · exact h
      obtain ⟨⟨k0, _⟩, _⟩ := Classical.choose_spec (each 0 hpos)
      have k1 : W.cell? a = some (.int .i64 (Classical.choose (each 0 hpos)).k) := by simpa [Addr.add] using k0
      obtain ⟨ea, hlt⟩ := cell_plain k1
      refine ⟨a.block, a.off, by rw [← ea], hlt, fun j hj => ?_⟩
      have hj' : j < len := by simpa using hj
      obtain ⟨⟨q0, q1, q2, q3, q4, q5, q6⟩, _⟩ := Classical.choose_spec (each j hj')
      rw [List.getElem_ofFn]
      exact ⟨add_at ea q0, by rw [Nat.add_assoc]; exact add_at ea q1, by rw [Nat.add_assoc]; exact add_at ea q2, by rw [Nat.add_assoc]; exact add_at ea q3, by rw [Nat.add_assoc]; exact add_at ea q4, by rw [Nat.add_assoc]; exact add_at ea q5, by rw [Nat.add_assoc]; exact add_at ea q6⟩
    · intro x hx
      obtain ⟨i, rfl⟩ := List.mem_ofFn.1 hx
      exact (Classical.choose_spec (each i.1 i.2)).2.1
    · intro x hx
      obtain ⟨i, rfl⟩ := List.mem_ofFn.1 hx
      exact (Classical.choose_spec (each i.1 i.2)).2.2
end
end N
end Go.Proofs.YtidccohjehegjaaDoor
