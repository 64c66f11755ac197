/- What the statements of layer 5 use: rows of bounded bulk, made normal, printed. -/
import Derived.Test.YtmnegpdegfianaaDoorPLiftU
import Derived.Test.YtmnegpdegfianaaDoorS1
import Derived.Test.YtmnegpdegfianaaDoorS2
import Derived.Test.YtmnegpdegfianaaDoorS5
import Derived.Test.YtmnegpdegfianaaDoorS6
namespace Go.Proofs.YtmnegpdegfianaaDoor
open Go.ChangeShapes Go.WideShapes Go.ChangeAt Go.RowKit Go.Shelf
def weighI (x : P.Itm) : Nat := x.text.size + x.attrs.length + 1
theorem bulk_pos {H : Type} (d : DataW H) : 1 ≤ Rows.uptoBulk d := by
  cases d with
  | lit l => cases l <;> simp [Rows.uptoBulk]
  | _ => simp [Rows.uptoBulk]
theorem bulk_count {H : Type} : ∀ (E : List (DataW H)), E.length ≤ Rows.uptoBulkAll E
  | [] => Nat.zero_le _
  | d :: E => by
    have h1 := bulk_pos d
    have h2 := bulk_count E
    rw [Rows.uptoBulkAll, List.length_cons]
    omega
theorem bulk_len {H : Type} {len : Nat} {D : Nat → DataW H} {E : List (DataW H)} : len ≤ Rows.uptoBulk (.slice ((List.range len).map D) E) := by
  have := bulk_count ((List.range len).map D)
  rw [List.length_map, List.length_range] at this
  rw [Rows.uptoBulk]
  omega
theorem bulk_sum {H : Type} : ∀ {l : List IV} {E : List (DataW H)}, l.length = E.length → (∀ i (h : i < l.length) (h' : i < E.length), weighI l[i].1 ≤ Rows.uptoBulk E[i]) → (l.map fun x => weighI x.1).sum ≤ Rows.uptoBulkAll E
  | [], _, _, _ => by simp
  | x :: l, [], h, _ => by simp at h
  | x :: l, d :: E, h, hw => by
    have h0 := hw 0 (by simp) (by simp)
    have h1 := bulk_sum (l := l) (E := E) (by simpa using h) (fun i a b => hw (i + 1) (by simpa using a) (by simpa using b))
    simp only [List.getElem_cons_zero] at h0
    rw [Rows.uptoBulkAll, List.map_cons, List.sum_cons]
    omega
section
variable {H : Type} {enc : TypeId × Value → H} {W : World}
set_option maxRecDepth 100000 in
theorem open_attrsV {n : Nat} {v : Value} {y : DataW H × List MemPlace} (h : DataW.trod enc Tryd.prog W 0 (fun _ => true) true n 30 [v] = some y) : ∃ l : List L.Attr, AttrsIn v l W ∧ l.length ≤ Rows.uptoBulk y.1 ∧ ∀ a ∈ l, a.1.size ≤ Rows.uptoBulk y.1 ∧ a.2.size ≤ Rows.uptoBulk y.1 := by
  rcases Deep.open_slice Tryd.underlying30 h with ⟨h0, _⟩ | ⟨a, len, cap, m, n', D, Pl, h0, _, hl, hm, hmm, hY, hx⟩
  · simp only [List.cons.injEq, and_true] at h0
    subst h0
    exact ⟨[], ⟨none, 0, rfl, by simp, by simp⟩, by simp, by simp⟩
  · simp only [List.cons.injEq, and_true] at h0
    subst h0
    simp only [if_true] at hmm
    have c40 : Tryd.prog.cellsOf 34 = 2 := by kernel_rfl
    have each : ∀ i, i < len → ∃ q : L.Attr, (W.cell? (a.add (i * 2)) = some (.string q.1) ∧ W.cell? (a.add (i * 2 + 1)) = some (.string q.2)) ∧ q.1.size ≤ Rows.uptoBulk y.1 ∧ q.2.size ≤ Rows.uptoBulk y.1 := by
      intro i hi
      obtain ⟨cs', h1, h2⟩ := hx i (by omega)
      rw [c40] at h1
      obtain ⟨_, hlen, hcell⟩ := World.cells?_some h1
      obtain ⟨x1, x2, rfl, s0, s1⟩ := open_attrU h2
      have e0 := hcell 0 (by omega)
      have e1 := hcell 1 (by omega)
      rw [Deep.add_add] at e0 e1
      have hb := bulk_of (E := (List.range (m - len)).map fun j => D (len + j)) (D := D) hi
      rw [hY]
      exact ⟨(x1, x2), ⟨by simpa using e0, by simpa using e1⟩, Nat.le_trans s0 hb, Nat.le_trans s1 hb⟩
    refine ⟨List.ofFn (n := len) fun i => Classical.choose (each i.1 i.2), ⟨some a, cap, by simp, by simp; unfold maxLen at hm; omega, fun hne => ?_⟩, by rw [List.length_ofFn, hY]; exact bulk_len, ?_⟩
    · have hpos : 0 < len := by
        rcases Nat.eq_zero_or_pos len with rfl | h
        · simp at hne
        · exact h
      obtain ⟨⟨k0, _⟩, _⟩ := Classical.choose_spec (each 0 hpos)
      have k1 : W.cell? a = some (.string (Classical.choose (each 0 hpos)).1) := by simpa [Addr.add] using k0
      obtain ⟨ea, hlt⟩ := cell_plain k1
      refine ⟨a.block, a.off, by rw [← ea], hlt, fun j hj => ?_⟩
      have hj' : j < len := by simpa using hj
      obtain ⟨⟨q0, q1⟩, _⟩ := Classical.choose_spec (each j hj')
      rw [List.getElem_ofFn]
      exact ⟨add_at ea q0, by rw [Nat.add_assoc]; exact add_at ea q1⟩
    · intro x hx
      obtain ⟨i, rfl⟩ := List.mem_ofFn.1 hx
      exact (Classical.choose_spec (each i.1 i.2)).2
set_option maxRecDepth 100000 in
theorem open_itemV {n : Nat} {cs : List Value} {y : DataW H × List MemPlace} (h : DataW.trod enc Tryd.prog W 0 (fun _ => true) true n 32 cs = some y) :
    ∃ x : IV, cs = [.int .i64 x.1.level, .int .i64 x.1.kind, .string x.1.name, .string x.1.text, x.2] ∧ AttrsIn x.2 x.1.attrs W ∧ FitB (Rows.uptoBulk y.1) x.1 ∧ weighI x.1 ≤ Rows.uptoBulk y.1 := by
  obtain ⟨xs, k, _, rfl, hl, hx, hf⟩ := DataW.trod_struct Tryd.underlying32 h
  have c3 : Tryd.prog.cellsOf 3 = 1 := by kernel_rfl
  have c9 : Tryd.prog.cellsOf 9 = 1 := by kernel_rfl
  have c25 : Tryd.prog.cellsOf 30 = 1 := by kernel_rfl
  have c49 : Tryd.prog.cellsOf 32 = 5 := by kernel_rfl
  rw [c49] at hl
  have hx2 : xs.length = 5 := hx
  match xs, hx2, cs, hl with
  | [y0, y1, y2, y3, y4], _, [v0, v1, v2, v3, v4], _ =>
    have g0 : DataW.trod enc Tryd.prog W 0 (fun _ => true) true k 3 (([v0, v1, v2, v3, v4].drop 0).take (Tryd.prog.cellsOf 3)) = some y0 := hf 0 _ rfl
    have g1 : DataW.trod enc Tryd.prog W 0 (fun _ => true) true k 3 (([v0, v1, v2, v3, v4].drop 1).take (Tryd.prog.cellsOf 3)) = some y1 := hf 1 _ rfl
    have g2 : DataW.trod enc Tryd.prog W 0 (fun _ => true) true k 9 (([v0, v1, v2, v3, v4].drop 2).take (Tryd.prog.cellsOf 9)) = some y2 := hf 2 _ rfl
    have g3 : DataW.trod enc Tryd.prog W 0 (fun _ => true) true k 9 (([v0, v1, v2, v3, v4].drop 3).take (Tryd.prog.cellsOf 9)) = some y3 := hf 3 _ rfl
    have g4 : DataW.trod enc Tryd.prog W 0 (fun _ => true) true k 30 (([v0, v1, v2, v3, v4].drop 4).take (Tryd.prog.cellsOf 30)) = some y4 := hf 4 _ rfl
    rw [c3] at g0 g1
    rw [c9] at g2 g3
    rw [c25] at g4
    replace g0 : DataW.trod enc Tryd.prog W 0 (fun _ => true) true k 3 [v0] = some y0 := g0
    replace g1 : DataW.trod enc Tryd.prog W 0 (fun _ => true) true k 3 [v1] = some y1 := g1
    replace g2 : DataW.trod enc Tryd.prog W 0 (fun _ => true) true k 9 [v2] = some y2 := g2
    replace g3 : DataW.trod enc Tryd.prog W 0 (fun _ => true) true k 9 [v3] = some y3 := g3
    replace g4 : DataW.trod enc Tryd.prog W 0 (fun _ => true) true k 30 [v4] = some y4 := g4
    obtain ⟨z0, e0, _, s0⟩ := DataW.trod_int Tryd.underlying3 g0
    obtain ⟨z1, e1, _, s1⟩ := DataW.trod_int Tryd.underlying3 g1
    obtain ⟨b2, e2, rfl, _⟩ := DataW.trod_string Tryd.underlying9 g2
    obtain ⟨b3, e3, rfl, _⟩ := DataW.trod_string Tryd.underlying9 g3
    obtain ⟨l, hA, hLN, hS⟩ := open_attrsV g4
    simp only [List.cons.injEq, and_true] at e0 e1 e2 e3
    subst e0 e1 e2 e3
    have m0 : IntKind.i64.min = -9223372036854775808 := by decide
    have m1 : IntKind.i64.max = 9223372036854775807 := by decide
    simp only [Lit.wf, Bool.and_eq_true, decide_eq_true_eq, m0, m1] at s0 s1
    have hbig : b2.size ≤ Rows.uptoBulk (DataW.agg (H := H) ([y0, y1, (.lit (.string b2.data.toList), []), (.lit (.string b3.data.toList), []), y4].map (·.1))) ∧ b3.size ≤ Rows.uptoBulk (DataW.agg (H := H) ([y0, y1, (.lit (.string b2.data.toList), []), (.lit (.string b3.data.toList), []), y4].map (·.1))) ∧ Rows.uptoBulk y4.1 ≤ Rows.uptoBulk (DataW.agg (H := H) ([y0, y1, (.lit (.string b2.data.toList), []), (.lit (.string b3.data.toList), []), y4].map (·.1))) := by
      refine ⟨?_, ?_, ?_⟩ <;> (simp only [List.map_cons, List.map_nil, Rows.uptoBulk, Rows.uptoBulkAll, Array.length_toList, ByteArray.size_data]; omega)
    refine ⟨(⟨z0, z1, b2, b3, l⟩, v4), rfl, hA, ⟨s0, s1, hbig.1, hbig.2.1, fun a ha => ⟨Nat.le_trans (hS a ha).1 hbig.2.2, Nat.le_trans (hS a ha).2 hbig.2.2⟩⟩, ?_⟩
    simp only [weighI, List.map_cons, List.map_nil, Rows.uptoBulk, Rows.uptoBulkAll, Array.length_toList, ByteArray.size_data]
    omega
set_option maxRecDepth 100000 in
theorem open_itemsV {base : Nat} {v : Value} {d : DataW H} {ps : List MemPlace} (hval : Value.okWide Tryd.prog W .any base 22 v) (h : DataW.Trod enc Tryd.prog W 0 (fun _ => true) true 22 v d ps) :
    ∃ l : List IV, ItemsIn v l W ∧ (∀ x ∈ l, FitB (Rows.uptoBulk d) x.1) ∧ (l.map fun x => weighI x.1).sum ≤ Rows.uptoBulk d := by
  obtain ⟨ao, len0, cap0, rfl⟩ := okWide_slice Tryd.underlying22 hval
  obtain ⟨fuel, hf⟩ := h
  have hf' : DataW.trod enc Tryd.prog W 0 (fun _ => true) true fuel 22 [.slice ao len0 cap0] = some (d, ps) := by simpa [Value.cells] using hf
  rcases Deep.open_slice Tryd.underlying22 hf' with ⟨h0, _⟩ | ⟨a, len, cap, m, n', D, Pl, h0, _, hl, hm, hmm, hY, hx⟩
  · simp only [List.cons.injEq, and_true] at h0
    rw [h0]
    exact ⟨[], ⟨⟨none, 0, rfl, by simp, by simp⟩, by simp⟩, by simp, by simp⟩
  · simp only [List.cons.injEq, and_true] at h0
    rw [h0]
    simp only [if_true] at hmm
    have c49 : Tryd.prog.cellsOf 32 = 5 := by kernel_rfl
    have each : ∀ i, i < len → ∃ q : IV, (W.cell? (a.add (i * 5)) = some (.int .i64 q.1.level) ∧ W.cell? (a.add (i * 5 + 1)) = some (.int .i64 q.1.kind) ∧ W.cell? (a.add (i * 5 + 2)) = some (.string q.1.name) ∧ W.cell? (a.add (i * 5 + 3)) = some (.string q.1.text) ∧ W.cell? (a.add (i * 5 + 4)) = some q.2) ∧ AttrsIn q.2 q.1.attrs W ∧ FitB (Rows.uptoBulk d) q.1 ∧ weighI q.1 ≤ Rows.uptoBulk (D i) := by
      intro i hi
      obtain ⟨cs', h1, h2⟩ := hx i (by omega)
      rw [c49] at h1
      obtain ⟨_, hlen, hcell⟩ := World.cells?_some h1
      obtain ⟨x, rfl, hA, hF, hW⟩ := open_itemV h2
      have e0 := hcell 0 (by omega)
      have e1 := hcell 1 (by omega)
      have e2 := hcell 2 (by omega)
      have e3 := hcell 3 (by omega)
      have e4 := hcell 4 (by omega)
      rw [Deep.add_add] at e0 e1 e2 e3 e4
      exact ⟨x, ⟨by simpa using e0, by simpa using e1, by simpa using e2, by simpa using e3, by simpa using e4⟩, hA, hF.le (by
        have hb := bulk_of (E := (List.range (m - len)).map fun j => D (len + j)) (D := D) hi
        rw [show d = _ from congrArg Prod.fst hY]
        exact hb), hW⟩
    refine ⟨List.ofFn (n := len) fun i => Classical.choose (each i.1 i.2), ⟨⟨some a, cap, by simp, by simp; unfold maxLen at hm; omega, fun hne => ?_⟩, ?_⟩, ?_, ?_⟩
    · have hpos : 0 < len := by
        rcases Nat.eq_zero_or_pos len with rfl | h
        · simp at hne
        · exact h
      obtain ⟨⟨k0, _⟩, _⟩ := Classical.choose_spec (each 0 hpos)
      have k1 : W.cell? a = some (.int .i64 (Classical.choose (each 0 hpos)).1.level) := by simpa [Addr.add] using k0
      obtain ⟨ea, hlt⟩ := cell_plain k1
      refine ⟨a.block, a.off, by rw [← ea], hlt, fun j hj => ?_⟩
      have hj' : j < len := by simpa using hj
      obtain ⟨⟨q0, q1, q2, q3, q4⟩, _⟩ := Classical.choose_spec (each j hj')
      rw [List.getElem_ofFn]
      exact ⟨add_at ea q0, by rw [Nat.add_assoc]; exact add_at ea q1, by rw [Nat.add_assoc]; exact add_at ea q2, by rw [Nat.add_assoc]; exact add_at ea q3, by rw [Nat.add_assoc]; exact add_at ea q4⟩
    · intro x hx
      obtain ⟨i, rfl⟩ := List.mem_ofFn.1 hx
      exact (Classical.choose_spec (each i.1 i.2)).2.1
    · intro x hx
      obtain ⟨i, rfl⟩ := List.mem_ofFn.1 hx
      exact (Classical.choose_spec (each i.1 i.2)).2.2.1
    · have hd : Rows.uptoBulkAll ((List.range len).map D) ≤ Rows.uptoBulk d := by
        rw [show d = _ from congrArg Prod.fst hY, Rows.uptoBulk]
        omega
      have := bulk_sum (l := List.ofFn (n := len) fun i => Classical.choose (each i.1 i.2)) (E := (List.range len).map D) (by simp) (fun i h h' => by
        rw [List.getElem_ofFn]
        have := (Classical.choose_spec (each i (by simpa using h))).2.2.2
        simpa using this)
      omega
end
theorem weigh_texts : ∀ (l : List IV), (S.texts (l.map (·.1))).length + l.length ≤ (l.map fun x => weighI x.1).sum
  | [] => by simp [S.texts]
  | x :: l => by
    have := weigh_texts l
    simp only [S.texts, List.map_cons, List.flatMap_cons, List.length_append, List.length_cons, List.sum_cons, weighI, Array.length_toList, ByteArray.size_data] at *
    omega
theorem weigh_in : ∀ {l : List IV} {x : IV}, x ∈ l → weighI x.1 ≤ (l.map fun x => weighI x.1).sum
  | [], _, h => by simp at h
  | y :: l, x, h => by
    rw [List.map_cons, List.sum_cons]
    rcases List.mem_cons.1 h with rfl | h
    · omega
    · have := weigh_in h
      omega
end Go.Proofs.YtmnegpdegfianaaDoor
namespace Go.Proofs.YtmnegpdegfianaaDoor
open Go.RowKit Go.Shelf
/-- A row of bounded bulk. -/
structure RB (m : List P.Itm) : Prop where
  len : m.length ≤ 1048576
  txt : (S.texts m).length ≤ 1048576
  fit : ∀ x ∈ m, FitU x ∧ x.attrs.length ≤ 1048576
theorem rb_of {l : List IV} (F : ∀ x ∈ l, FitU x.1) (hs : (l.map fun x => weighI x.1).sum ≤ 1048576) : RB (l.map (·.1)) := by
  have h1 := weigh_texts l
  refine ⟨by rw [List.length_map]; omega, by omega, fun x hx => ?_⟩
  obtain ⟨y, hy, rfl⟩ := List.mem_map.1 hx
  have := weigh_in hy
  unfold weighI at this
  exact ⟨F y hy, by unfold weighI at *; omega⟩
theorem RB.normal {m : List P.Itm} (h : RB m) : RB (S.normalP m) := by
  refine ⟨Nat.le_trans (S.normal_len m) h.len, Nat.le_trans (S.normal_sum m) h.txt, fun y hy => ?_⟩
  obtain ⟨x, hx, e1, e2, e3, e4⟩ := S.normal_from y hy
  obtain ⟨⟨f1, f2, f3, f4, f5⟩, f6⟩ := h.fit x hx
  have ht := S.texts_mem hy
  have hs := S.normal_sum m
  have := h.txt
  exact ⟨⟨by rw [e1]; exact f1, by rw [e2]; exact f2, by rw [e3]; exact f3, by omega, by rw [e4]; exact f5⟩, by rw [e4]; exact f6⟩
theorem normalR (V : Value) (l : List IV) (w : World) (I : Hid (ItemsIn V l w)) (R : Hid (RB (l.map (·.1)))) :
    Calls Tryd.prog 12 #[V] w fun e w' => ∃ a n c l', e = .returned (.slice a n c) ∧ l'.map (·.1) = S.normalP (l.map (·.1)) ∧ ItmRow w.heap.size (.slice a n c) l' w' ∧ Below w.heap.size w w' := by
  refine (normal_any V l w I (by have := R.out.len; rw [List.length_map] at this; omega) (by have := R.out.txt; omega) (fun x hx => by have := (R.out.fit x.1 (List.mem_map.2 ⟨x, hx, rfl⟩)).2; omega)).mono ?_
  rintro e w' ⟨V', l', h1, h2, h3, h4⟩
  rcases h3.1.2 with ⟨rfl, _⟩ | ⟨g, cap, cur, rfl, _⟩
  · exact ⟨_, _, _, l', h1, h2, h3, h4⟩
  · exact ⟨_, _, _, l', h1, h2, h3, h4⟩
theorem printR_any (V : Value) (l : List IV) (w : World) (I : Hid (ItemsIn V l w)) (F : Hid (∀ x ∈ l.map (·.1), FitC x)) (ht : Tab w) (s : ByteArray) (b : Int) (HR : Hid (S.printR (l.map (·.1)) = (s, b))) :
    Calls Tryd.prog 9 #[V] w fun e w' => e = .returned (.tuple #[.string s, .int .i64 b]) ∧ Below w.heap.size w w' := by
  have F' : Hid (∀ x ∈ l, FitC x.1) := hid (fun x hx => F.out x.1 (List.mem_map.2 ⟨x, hx, rfl⟩))
  by_cases hb : b = 0
  · subst hb
    obtain ⟨h1, rfl⟩ := S.printR_ok HR.out
    exact print_ok V l w I F' ht (hid h1)
  · obtain ⟨rfl, h2⟩ := S.printR_no HR.out hb
    exact print_no V l w I F' ht _ b (hid h2) hb
theorem RB.fits {m : List P.Itm} (h : RB m) : ∀ x ∈ m, FitC x := fun x hx => (h.fit x hx).1.fit
end Go.Proofs.YtmnegpdegfianaaDoor
