/- What the reading of an argument that is a row of items gives the walks; and that it reads so again behind a call that leaves old memory alone. -/
import Derived.Test.YtidccohjehegjaaDoorK4
import Derived.Test.YtidccohjehegjaaDoorGLaidK
import Derived.Test.YtidccohjehegjaaDoorTie
import Derived.Test.YtidccohjehegjaaDoorCards
import Derived.SevenTiedAt
import Derived.Deep.DeepHandedRow
import Derived.Deep.Slices
import Derived.WideKeyArgs
namespace Go.Proofs.YtidccohjehegjaaDoor
open Go.ChangeShapes Go.WideShapes Go.ChangeAt Go.RowKit Go.Shelf
/-- What is asked of an item's parts where they come from outside. -/
def FitI (x : P.Itm) : Prop := (-9223372036854775808 ≤ x.level ∧ x.level ≤ 9223372036854775807) ∧ (-9223372036854775808 ≤ x.kind ∧ x.kind ≤ 9223372036854775807) ∧ x.name.size ≤ maxLen ∧ x.text.size ≤ maxLen ∧ ∀ a ∈ x.attrs, a.1.size ≤ maxLen ∧ a.2.size ≤ maxLen
theorem cell_plain {w : World} {a : Addr} {u : Value} (h : w.cell? a = some u) : a = ⟨a.block, a.off, none⟩ ∧ a.block < w.heap.size := by
  unfold World.cell? at h
  split at h
  · rename_i c e f hb
    split at h
    · cases h
    · rename_i hs
      refine ⟨?_, lt_of_block hb⟩
      obtain ⟨b, o, s⟩ := a
      cases s with
      | none => rfl
      | some q => exact absurd rfl hs
  · cases h
theorem add_at {w : World} {a : Addr} {n : Nat} {u : Value} (h0 : a = ⟨a.block, a.off, none⟩) (h : w.cell? (a.add n) = some u) : w.cell? ⟨a.block, a.off + n, none⟩ = some u := by
  rw [h0, Addr.add_lit] at h
  exact h
section
variable {H : Type} {enc : TypeId × Value → H} {W : World}
set_option maxRecDepth 100000 in
theorem open_attr {n : Nat} {cs : List Value} {y : DataW H × List MemPlace} (h : DataW.trod enc Tryd.prog W 0 (fun _ => true) true n 79 cs = some y) : ∃ a b : ByteArray, cs = [.string a, .string b] ∧ a.size ≤ maxLen ∧ b.size ≤ maxLen := by
  obtain ⟨xs, k, _, _, hl, hx, hf⟩ := DataW.trod_struct Tryd.underlying79 h
  have c9 : Tryd.prog.cellsOf 9 = 1 := by kernel_rfl
  have c40 : Tryd.prog.cellsOf 79 = 2 := by kernel_rfl
  rw [c40] at hl
  have hx2 : xs.length = 2 := hx
  match xs, hx2, cs, hl with
  | [y0, y1], _, [v0, v1], _ =>
    have g0 : DataW.trod enc Tryd.prog W 0 (fun _ => true) true k 9 (([v0, v1].drop 0).take (Tryd.prog.cellsOf 9)) = some y0 := hf 0 _ rfl
    have g1 : DataW.trod enc Tryd.prog W 0 (fun _ => true) true k 9 (([v0, v1].drop 1).take (Tryd.prog.cellsOf 9)) = some y1 := hf 1 _ rfl
    rw [c9] at g0 g1
    replace g0 : DataW.trod enc Tryd.prog W 0 (fun _ => true) true k 9 [v0] = some y0 := g0
    replace g1 : DataW.trod enc Tryd.prog W 0 (fun _ => true) true k 9 [v1] = some y1 := g1
    obtain ⟨a, e0, _, s0⟩ := DataW.trod_string Tryd.underlying9 g0
    obtain ⟨b, e1, _, s1⟩ := DataW.trod_string Tryd.underlying9 g1
    simp only [List.cons.injEq, and_true] at e0 e1
    subst e0 e1
    exact ⟨a, b, rfl, s0, s1⟩
set_option maxRecDepth 100000 in
theorem open_attrs {n : Nat} {v : Value} {y : DataW H × List MemPlace} (h : DataW.trod enc Tryd.prog W 0 (fun _ => true) true n 38 [v] = some y) : ∃ l : List L.Attr, AttrsIn v l W ∧ ∀ a ∈ l, a.1.size ≤ maxLen ∧ a.2.size ≤ maxLen := by
  rcases Deep.open_slice Tryd.underlying38 h with ⟨h0, _⟩ | ⟨a, len, cap, m, n', D, Pl, h0, _, hl, hm, hmm, _, hx⟩
  · simp only [List.cons.injEq, and_true] at h0
    subst h0
    exact ⟨[], ⟨none, 0, rfl, by simp, by simp⟩, by simp⟩
  · simp only [List.cons.injEq, and_true] at h0
    subst h0
    simp only [if_true] at hmm
    have c40 : Tryd.prog.cellsOf 79 = 2 := by kernel_rfl
    have each : ∀ i, i < len → ∃ q : L.Attr, (W.cell? (a.add (i * 2)) = some (.string q.1) ∧ W.cell? (a.add (i * 2 + 1)) = some (.string q.2)) ∧ q.1.size ≤ maxLen ∧ q.2.size ≤ maxLen := by
      intro i hi
      obtain ⟨cs', h1, h2⟩ := hx i (by omega)
      rw [c40] at h1
      obtain ⟨_, hlen, hcell⟩ := World.cells?_some h1
      obtain ⟨x1, x2, rfl, s0, s1⟩ := open_attr h2
      have e0 := hcell 0 (by omega)
      have e1 := hcell 1 (by omega)
      rw [Deep.add_add] at e0 e1
      exact ⟨(x1, x2), ⟨by simpa using e0, by simpa using e1⟩, s0, s1⟩
    refine ⟨List.ofFn (n := len) fun i => Classical.choose (each i.1 i.2), ⟨some a, cap, by simp, by simp; unfold maxLen at hm; omega, fun hne => ?_⟩, ?_⟩
    · have hpos : 0 < len := by
        rcases Nat.eq_zero_or_pos len with rfl | h
        · simp at hne
        · exact h
      obtain ⟨⟨k0, _⟩, _⟩ := Classical.choose_spec (each 0 hpos)
      have k1 : W.cell? a = some (.string (Classical.choose (each 0 hpos)).1) := by simpa [Addr.add] using k0
      obtain ⟨ea, hlt⟩ := cell_plain k1
      refine ⟨a.block, a.off, by rw [← ea], hlt, fun j hj => ?_⟩
      have hj' : j < len := by simpa using hj
      obtain ⟨⟨q0, q1⟩, _⟩ := Classical.choose_spec (each j hj')
      rw [List.getElem_ofFn]
      exact ⟨add_at ea q0, by rw [Nat.add_assoc]; exact add_at ea q1⟩
    · intro x hx
      obtain ⟨i, rfl⟩ := List.mem_ofFn.1 hx
      exact (Classical.choose_spec (each i.1 i.2)).2
set_option maxRecDepth 100000 in
theorem open_item {n : Nat} {cs : List Value} {y : DataW H × List MemPlace} (h : DataW.trod enc Tryd.prog W 0 (fun _ => true) true n 49 cs = some y) :
    ∃ x : IV, cs = [.int .i64 x.1.level, .int .i64 x.1.kind, .string x.1.name, .string x.1.text, x.2] ∧ AttrsIn x.2 x.1.attrs W ∧ FitI x.1 := by
  obtain ⟨xs, k, _, _, hl, hx, hf⟩ := DataW.trod_struct Tryd.underlying49 h
  have c3 : Tryd.prog.cellsOf 3 = 1 := by kernel_rfl
  have c9 : Tryd.prog.cellsOf 9 = 1 := by kernel_rfl
  have c25 : Tryd.prog.cellsOf 38 = 1 := by kernel_rfl
  have c49 : Tryd.prog.cellsOf 49 = 5 := by kernel_rfl
  rw [c49] at hl
  have hx2 : xs.length = 5 := hx
  match xs, hx2, cs, hl with
  | [y0, y1, y2, y3, y4], _, [v0, v1, v2, v3, v4], _ =>
    have g0 : DataW.trod enc Tryd.prog W 0 (fun _ => true) true k 3 (([v0, v1, v2, v3, v4].drop 0).take (Tryd.prog.cellsOf 3)) = some y0 := hf 0 _ rfl
    have g1 : DataW.trod enc Tryd.prog W 0 (fun _ => true) true k 3 (([v0, v1, v2, v3, v4].drop 1).take (Tryd.prog.cellsOf 3)) = some y1 := hf 1 _ rfl
    have g2 : DataW.trod enc Tryd.prog W 0 (fun _ => true) true k 9 (([v0, v1, v2, v3, v4].drop 2).take (Tryd.prog.cellsOf 9)) = some y2 := hf 2 _ rfl
    have g3 : DataW.trod enc Tryd.prog W 0 (fun _ => true) true k 9 (([v0, v1, v2, v3, v4].drop 3).take (Tryd.prog.cellsOf 9)) = some y3 := hf 3 _ rfl
    have g4 : DataW.trod enc Tryd.prog W 0 (fun _ => true) true k 38 (([v0, v1, v2, v3, v4].drop 4).take (Tryd.prog.cellsOf 38)) = some y4 := hf 4 _ rfl
    rw [c3] at g0 g1
    rw [c9] at g2 g3
    rw [c25] at g4
    replace g0 : DataW.trod enc Tryd.prog W 0 (fun _ => true) true k 3 [v0] = some y0 := g0
    replace g1 : DataW.trod enc Tryd.prog W 0 (fun _ => true) true k 3 [v1] = some y1 := g1
    replace g2 : DataW.trod enc Tryd.prog W 0 (fun _ => true) true k 9 [v2] = some y2 := g2
    replace g3 : DataW.trod enc Tryd.prog W 0 (fun _ => true) true k 9 [v3] = some y3 := g3
    replace g4 : DataW.trod enc Tryd.prog W 0 (fun _ => true) true k 38 [v4] = some y4 := g4
    obtain ⟨z0, e0, _, s0⟩ := DataW.trod_int Tryd.underlying3 g0
    obtain ⟨z1, e1, _, s1⟩ := DataW.trod_int Tryd.underlying3 g1
    obtain ⟨b2, e2, _, s2⟩ := DataW.trod_string Tryd.underlying9 g2
    obtain ⟨b3, e3, _, s3⟩ := DataW.trod_string Tryd.underlying9 g3
    obtain ⟨l, hA, hS⟩ := open_attrs g4
    simp only [List.cons.injEq, and_true] at e0 e1 e2 e3
    subst e0 e1 e2 e3
    have m0 : IntKind.i64.min = -9223372036854775808 := by decide
    have m1 : IntKind.i64.max = 9223372036854775807 := by decide
    simp only [Lit.wf, Bool.and_eq_true, decide_eq_true_eq, m0, m1] at s0 s1
    exact ⟨(⟨z0, z1, b2, b3, l⟩, v4), rfl, hA, s0, s1, s2, s3, hS⟩
set_option maxRecDepth 100000 in
theorem open_items {base : Nat} {v : Value} {d : DataW H} {ps : List MemPlace} (hval : Value.okWide Tryd.prog W .any base 27 v) (h : DataW.Trod enc Tryd.prog W 0 (fun _ => true) true 27 v d ps) :
    ∃ l : List IV, ItemsIn v l W ∧ ∀ x ∈ l, FitI x.1 := by
  obtain ⟨ao, len0, cap0, rfl⟩ := okWide_slice Tryd.underlying27 hval
  obtain ⟨fuel, hf⟩ := h
  have hf' : DataW.trod enc Tryd.prog W 0 (fun _ => true) true fuel 27 [.slice ao len0 cap0] = some (d, ps) := by simpa [Value.cells] using hf
  rcases Deep.open_slice Tryd.underlying27 hf' with ⟨h0, _⟩ | ⟨a, len, cap, m, n', D, Pl, h0, _, hl, hm, hmm, _, hx⟩
  · simp only [List.cons.injEq, and_true] at h0
    rw [h0]
    exact ⟨[], ⟨⟨none, 0, rfl, by simp, by simp⟩, by simp⟩, by simp⟩
  · simp only [List.cons.injEq, and_true] at h0
    rw [h0]
    simp only [if_true] at hmm
    have c49 : Tryd.prog.cellsOf 49 = 5 := by kernel_rfl
    have each : ∀ i, i < len → ∃ q : IV, (W.cell? (a.add (i * 5)) = some (.int .i64 q.1.level) ∧ W.cell? (a.add (i * 5 + 1)) = some (.int .i64 q.1.kind) ∧ W.cell? (a.add (i * 5 + 2)) = some (.string q.1.name) ∧ W.cell? (a.add (i * 5 + 3)) = some (.string q.1.text) ∧ W.cell? (a.add (i * 5 + 4)) = some q.2) ∧ AttrsIn q.2 q.1.attrs W ∧ FitI q.1 := by
      intro i hi
      obtain ⟨cs', h1, h2⟩ := hx i (by omega)
      rw [c49] at h1
      obtain ⟨_, hlen, hcell⟩ := World.cells?_some h1
      obtain ⟨x, rfl, hA, hF⟩ := open_item h2
      have e0 := hcell 0 (by omega)
      have e1 := hcell 1 (by omega)
      have e2 := hcell 2 (by omega)
      have e3 := hcell 3 (by omega)
      have e4 := hcell 4 (by omega)
      rw [Deep.add_add] at e0 e1 e2 e3 e4
      exact ⟨x, ⟨by simpa using e0, by simpa using e1, by simpa using e2, by simpa using e3, by simpa using e4⟩, hA, hF⟩
    refine ⟨List.ofFn (n := len) fun i => Classical.choose (each i.1 i.2), ⟨⟨some a, cap, by simp, by simp; unfold maxLen at hm; omega, fun hne => ?_⟩, ?_⟩, ?_⟩
    · have hpos : 0 < len := by
        rcases Nat.eq_zero_or_pos len with rfl | h
        · simp at hne
        · exact h
      obtain ⟨⟨k0, _⟩, _⟩ := Classical.choose_spec (each 0 hpos)
      have k1 : W.cell? a = some (.int .i64 (Classical.choose (each 0 hpos)).1.level) := by simpa [Addr.add] using k0
      obtain ⟨ea, hlt⟩ := cell_plain k1
      refine ⟨a.block, a.off, by rw [← ea], hlt, fun j hj => ?_⟩
      have hj' : j < len := by simpa using hj
      obtain ⟨⟨q0, q1, q2, q3, q4⟩, _⟩ := Classical.choose_spec (each j hj')
      rw [List.getElem_ofFn]
      exact ⟨add_at ea q0, by rw [Nat.add_assoc]; exact add_at ea q1, by rw [Nat.add_assoc]; exact add_at ea q2, by rw [Nat.add_assoc]; exact add_at ea q3, by rw [Nat.add_assoc]; exact add_at ea q4⟩
    · intro x hx
      obtain ⟨i, rfl⟩ := List.mem_ofFn.1 hx
      exact (Classical.choose_spec (each i.1 i.2)).2.1
    · intro x hx
      obtain ⟨i, rfl⟩ := List.mem_ofFn.1 hx
      exact (Classical.choose_spec (each i.1 i.2)).2.2
theorem laidOut : laidOutB Tryd.prog = true := by kernel_rfl
/-- An argument that reads as something reads so again. -/
theorem again_items {t : TypeId} (hr : Tryd.prog.readableRec t = true) (ht : t < Tryd.prog.types.size) {v : Value} {d : DataW H} {ps : List MemPlace} (h : DataW.Trod enc Tryd.prog W 0 (fun _ => true) true t v d ps) (hlt : ∀ p ∈ ps, p.block < W.heap.size) {W' : World} (hb : Below W.heap.size W W') :
    DataW.Trod enc Tryd.prog W' 0 (fun b => decide (b < W.heap.size)) true t v d ps :=
  WideElems.Trod_stays laidOut hr ht h (fun p hp => hb.same (hlt p hp)) (fun p hp => by simpa using hlt p hp)
theorem trod_lt {t : TypeId} {v : Value} {d : DataW H} {ps : List MemPlace} (h : DataW.Trod enc Tryd.prog W 0 (fun _ => true) true t v d ps) : ∀ p ∈ ps, p.block < W.heap.size :=
  DataW.TrodAll.lt (trodAll_mk1 h)
end
end Go.Proofs.YtidccohjehegjaaDoor
