/- The library's slices.Insert at attributes: one more, whatever the row's room. -/
import Derived.Test.YtidccohjehegjaaDoorNCopyK
import Derived.Test.YtidccohjehegjaaDoorK4
import Derived.Test.YtidccohjehegjaaDoorNInsK
import Derived.Lib.Overlaps
import Derived.Laws.Externs
namespace Go.Proofs.YtidccohjehegjaaDoor
open Go.RowKit Go.Shelf Go.Lib
namespace N
open T
/-- Attributes, one put in. -/
def insT (l : List L.Attr) (i : Nat) (a : L.Attr) : List L.Attr := l.take i ++ (a :: l.drop i)
theorem insT_len (l : List L.Attr) (i : Nat) (a : L.Attr) (h : i ≤ l.length) : (insT l i a).length = l.length + 1 := by
  simp only [insT, List.length_append, List.length_take, List.length_cons, List.length_drop]
  omega
theorem encL_app (l m : List L.Attr) : encL (l ++ m) = encL l ++ encL m := List.flatMap_append
theorem encL_cons (a : L.Attr) (l : List L.Attr) : encL (a :: l) = encA a ++ encL l := List.flatMap_cons
theorem encL_one (l : List L.Attr) : ∀ v ∈ encL l, v.oneCell' = true := by
  intro v hv
  obtain ⟨a, _, h⟩ := List.mem_flatMap.1 hv
  simp only [encA, List.mem_cons, List.not_mem_nil, or_false] at h
  rcases h with rfl | rfl <;> rfl
theorem encA_one (a : L.Attr) : ∀ v ∈ encA a, v.oneCell' = true := by
  intro v h
  simp only [encA, List.mem_cons, List.not_mem_nil, or_false] at h
  rcases h with rfl | rfl <;> rfl
theorem encL_drop (l : List L.Attr) (i : Nat) : (encL l).drop (i * 2) = encL (l.drop i) := by
  have e : encL l = encL (l.take i) ++ encL (l.drop i) := by rw [← encL_app, List.take_append_drop]
  by_cases h : i ≤ l.length
  · rw [e, List.drop_left' (by rw [encL_length, List.length_take]; omega)]
  · rw [List.drop_eq_nil_of_le (by rw [encL_length]; omega), List.drop_eq_nil_of_le (by omega)]
    rfl
theorem encL_take (l : List L.Attr) (i : Nat) : (encL l).take (i * 2) = encL (l.take i) := by
  have e : encL l = encL (l.take i) ++ encL (l.drop i) := by rw [← encL_app, List.take_append_drop]
  by_cases h : i ≤ l.length
  · rw [e, List.take_left' (by rw [encL_length, List.length_take]; omega)]
  · rw [List.take_of_length_le (by rw [encL_length]; omega), List.take_of_length_le (by omega)]
/-- Attributes moved on by one, and one laid between. -/
theorem shift_over (cur : List Value) (l : List L.Attr) (i : Nat) (a : L.Attr) (hi : i ≤ l.length) (hc : (l.length + 1) * 2 ≤ cur.length) (ht : cur.take (l.length * 2) = encL l) :
    (over (over cur ((i + 1) * 2) (encL (l.drop i))) (i * 2) (encA a)).take ((l.length + 1) * 2) = encL (insT l i a) := by
  have hd : (encL (l.drop i)).length = (l.length - i) * 2 := by rw [encL_length, List.length_drop]
  have ha : (encA a).length = 2 := rfl
  have h1 : cur.take (i * 2) = encL (l.take i) := by
    rw [← encL_take, ← ht, List.take_take, Nat.min_eq_left (by omega)]
  unfold over
  rw [List.take_append_of_le_length (l₁ := cur.take ((i + 1) * 2)) (by rw [List.length_take]; omega), List.take_take, Nat.min_eq_left (by omega), h1, insT, encL_app, encL_cons]
  have e2 : (cur.take ((i + 1) * 2) ++ (encL (l.drop i) ++ cur.drop ((i + 1) * 2 + (encL (l.drop i)).length))).drop (i * 2 + (encA a).length) = encL (l.drop i) ++ cur.drop ((i + 1) * 2 + (encL (l.drop i)).length) := by
    rw [ha]
    exact List.drop_left' (by rw [List.length_take]; omega)
  rw [e2, ← List.append_assoc, ← List.append_assoc, ← List.append_assoc]
  refine List.take_left' ?_
  rw [List.length_append, List.length_append, ha, hd, encL_length, List.length_take]
  omega
theorem cells_at {w : World} {b : Nat} {cur : List Value} {t : TypeId} (h : w.heap[b]? = some (.cells cur.toArray t (0, 0))) (o : Nat) (cs : List Value) (hc : (cur.drop o).take cs.length = cs) : ∀ j v, cs[j]? = some v → w.cell? ((⟨b, o, none⟩ : Addr).add j) = some v := by
  intro j v hj
  have hlt := (List.getElem?_eq_some_iff.1 hj).1
  rw [Addr.add_lit, Lib.cell_of_heap h, List.getElem?_toArray, ← List.getElem?_drop]
  rw [← hc, List.getElem?_take, if_pos hlt] at hj
  exact hj
set_option maxRecDepth 100000 in
set_option maxHeartbeats 4000000 in
/-- There is room: in place. -/
theorem ains_shift {w : World} {b vb n kc i : Nat} {l : List L.Attr} (a : L.Attr) (cur : List Value) (hb : w.heap[b]? = some (.cells cur.toArray 79 (0, 0))) (hv : w.heap[vb]? = some (.cells #[.string a.1, .string a.2] 79 (0, 0))) (hne : vb ≠ b)
    (hl : l.length = n) (hi : i < n) (hr : n + 1 ≤ kc) (hkc : kc ≤ 9223372036854775807) (hcs : cur.length = kc * 2) (ht : cur.take (n * 2) = encL l) :
    Calls Tryd.prog 43 #[.slice (some ⟨b, 0, none⟩) n kc, .int .i64 (i : Int), .slice (some ⟨vb, 0, none⟩) 1 1] w fun e w' => e = .returned (.slice (some ⟨b, 0, none⟩) (n + 1) kc) ∧ w' = (w.drew.setRow b (over cur ((i + 1) * 2) (encL (l.drop i))).toArray).setRow b (over (over cur ((i + 1) * 2) (encL (l.drop i))) (i * 2) (encA a)).toArray := by
  have hd : (encL (l.drop i)).length = (n - i) * 2 := by rw [encL_length, List.length_drop, hl]
  have hs2 : (Tryd.prog.info? 79).map (·.size) = some 2 := by kernel_rfl
  have hbs : w.shape? b = some (79, cur.length) := by simp [World.shape?, hb]
  have hvs : w.shape? vb = some (79, 2) := by simp [World.shape?, hv]
  have hov : ∀ lb cb, (callFunc 65 #[.slice (some ⟨vb, 0, none⟩) 1 1, .slice (some ⟨b, (i + 1) * 2, none⟩) lb cb]).run Tryd.prog w = .ok (.value (.bool false)) w := fun lb cb => by
    rw [run_callFunc_extern Tryd.func65 (by kernel_rfl) (by kernel_rfl) (by kernel_rfl) (e := Extern.SlicesOverlaps.overlaps #[38, 38] #[4]) (by kernel_rfl),
      Lib.run_overlaps_apart w 38 4 79 Tryd.underlying38 2 (fun w => by kernel_rfl) ⟨vb, 0, none⟩ ⟨b, (i + 1) * 2, none⟩ 1 1 lb cb hne _ _ _ _ hvs hbs (by omega) (Lib.frozen_of_heap hv 0) (Lib.frozen_of_heap hv _)]
    rfl
  obtain ⟨R1, hR1⟩ : ∃ R1, R1 = over cur ((i + 1) * 2) (encL (l.drop i)) := ⟨_, rfl⟩
  have hR1l : R1.length = cur.length := by rw [hR1]; exact over_len _ _ _ (by rw [hd]; omega)
  have hcp1 : ∀ ty dc sc, (Builtin.copy_ #[38, 38] ty #[.slice (some ⟨b, (i + 1) * 2, none⟩) (n - i) dc, .slice (some ⟨b, i * 2, none⟩) (n + 1 - i) sc]).run Tryd.prog w.drew = .ok (goInt ((n - i : Nat) : Int)) (w.drew.setRow b R1.toArray) := fun ty dc sc => by
    rw [hR1]
    refine copy_run w.drew _ _ ty 79 2 b ((i + 1) * 2) (n - i) dc ⟨b, i * 2, none⟩ (n + 1 - i) sc (n - i) cur 79 (encL (l.drop i)) Tryd.underlying38 hs2 hb (by simp only [Nat.min_def]; split <;> omega) hd (cells_at (w := w.drew) hb _ _ ?_) (by rw [hd]; omega) (encL_one _)
    rw [hd, ← encL_drop, ← ht, List.drop_take]
    congr 1
    omega
  have hcp2 : ∀ ty dc, (Builtin.copy_ #[38, 38] ty #[.slice (some ⟨b, i * 2, none⟩) (n + 1 - i) dc, .slice (some ⟨vb, 0, none⟩) 1 1]).run Tryd.prog (w.drew.setRow b R1.toArray) = .ok (goInt 1) ((w.drew.setRow b R1.toArray).setRow b (over R1 (i * 2) (encA a)).toArray) := fun ty dc => by
    refine copy_run (w.drew.setRow b R1.toArray) _ _ ty 79 2 b (i * 2) (n + 1 - i) dc ⟨vb, 0, none⟩ 1 1 1 R1 79 (encA a) Tryd.underlying38 hs2 (setRow_heap w.drew b _ _ _ _ hb) (by simp only [Nat.min_def]; split <;> omega) rfl (cells_at (cur := [.string a.1, .string a.2]) (show _ = _ from (setRow_other w.drew b vb _ hne).trans hv) 0 _ rfl) (by rw [hR1l]; show i * 2 + 2 ≤ _; omega) (encA_one _)
  clear hbs hvs hs2 hd hR1l
  rw [← hR1]
  clear hR1 hb hv ht
  have mixed : Tryd.prog.follows .mixedOrders = true := by kernel_rfl
  have hd1 : ¬ ((i : Int) = (n : Int)) := by omega
  have hw1 : IntKind.i64.wrap ((i : Int) + 1) = (i : Int) + 1 := by rw [IntKind.wrap_i64]; omega
  have hb1 : (0 : Int) ≤ (i : Int) + 1 := by omega
  have hin : i ≤ n := by omega
  have htn : ((i : Int) + 1).toNat = i + 1 := by omega
  have hb2 : ¬ (kc = i + 1) := by omega
  have hb3 : (i : Int) ≤ (n : Int) + 1 := by omega
  have hb4 : ¬ (kc = i) := by omega
  go_enter Tryd.func43, Tryd.ntmps43
  go_wp2_with (simp only [hov])
  go_region_law_o (refine step_copy_runI rfl _ _ 38 38 rfl _ _ (by simp [Act.eval, Act.put]) (by simp [Act.eval, Act.put]) (hcp1 _ _ _) ?_)
  go_wp2_with (at_builtin; refine wpList_copy_runI _ rfl _ _ 38 38 rfl _ _ rfl rfl (hcp2 _ _) ?_)
  go_ret
  exact ⟨rfl, rfl⟩
/-- An attribute laid at a place, and the others behind it. -/
theorem laid_over (row : List Value) (l : List L.Attr) (i : Nat) (a : L.Attr) (hi : i ≤ l.length) (ht : row.take (i * 2) = encL (l.take i)) :
    (over (over row (i * 2) (encA a)) ((i + 1) * 2) (encL (l.drop i))).take ((l.length + 1) * 2) = encL (insT l i a) := by
  have hd : (encL (l.drop i)).length = (l.length - i) * 2 := by rw [encL_length, List.length_drop]
  have ha : (encA a).length = 2 := rfl
  have hti : (encL (l.take i)).length = i * 2 := by rw [encL_length, List.length_take]; omega
  unfold over
  rw [ht]
  have e1 : (encL (l.take i) ++ (encA a ++ row.drop (i * 2 + (encA a).length))).take ((i + 1) * 2) = encL (l.take i) ++ encA a := by
    rw [← List.append_assoc]
    exact List.take_left' (by rw [List.length_append, hti, ha]; omega)
  rw [e1, insT, encL_app, encL_cons, ← List.append_assoc (encL (l.take i)) (encA a) (encL (l.drop i)), ← List.append_assoc (encL (l.take i) ++ encA a) (encL (l.drop i))]
  refine List.take_left' ?_
  rw [List.length_append, List.length_append, ha, hd, hti]
  omega
set_option maxRecDepth 100000 in
set_option maxHeartbeats 4000000 in
/-- There is no room: a new row. -/
theorem ains_grow {w : World} {b vb n kc i : Nat} {l : List L.Attr} (a : L.Attr) (cur : List Value) (hb : w.heap[b]? = some (.cells cur.toArray 79 (0, 0))) (hv : w.heap[vb]? = some (.cells #[.string a.1, .string a.2] 79 (0, 0)))
    (hl : l.length = n) (hi : i < n) (hnc : n ≤ kc) (hr : kc < n + 1) (hbig : n ≤ 100000) (ht : cur.take (n * 2) = encL l) :
    Calls Tryd.prog 43 #[.slice (some ⟨b, 0, none⟩) n kc, .int .i64 (i : Int), .slice (some ⟨vb, 0, none⟩) 1 1] w fun e w' => ∃ G row, e = .returned (.slice (some ⟨w.heap.size, 0, none⟩) (n + 1) G) ∧ n + 1 ≤ G ∧ G ≤ maxLen ∧ w'.heap[w.heap.size]? = some (.cells (List.toArray row) 79 (0, 0)) ∧ row.length = G * 2 ∧ row.take ((n + 1) * 2) = encL (insT l i a) ∧ Below w.heap.size w w' := by
  obtain ⟨i0, I0, I1, I2, I3⟩ := info_parts N.infoA
  have hs2 : (Tryd.prog.info? 79).map (·.size) = some 2 := by kernel_rfl
  have hbw := lt_of_block hb
  have hvw := lt_of_block hv
  have hd : (encL (l.drop i)).length = (n - i) * 2 := by rw [encL_length, List.length_drop, hl]
  have hti : (encL (l.take i)).length = i * 2 := by rw [encL_length, List.length_take]; omega
  have hold : (Builtin.firstCells i0.size i (.slice (some ⟨b, 0, none⟩) i kc)).run Tryd.prog w.drew = .ok (encL (l.take i)).toArray w.drew := by
    rw [I2]
    refine run_firstCells_some w.drew 2 i ⟨b, 0, none⟩ i kc (encL (l.take i)) hti (cells_at (w := w.drew) hb 0 _ ?_)
    rw [hti, List.drop_zero, ← encL_take, ← ht, List.take_take, Nat.min_eq_left (by omega)]
  have hik : i + (n + 1 - i) = n + 1 := by omega
  have hkk : (n : Int) + 1 - (i : Int) = ((n + 1 - i : Nat) : Int) := by omega
  obtain ⟨G, hG⟩ : ∃ G, G = grownCap w (n + 1) kc 79 := ⟨_, rfl⟩
  have hG1 : n + 1 ≤ G := by rw [hG]; exact grownCap_ge w _ _ _
  have hG2 : G ≤ maxLen := by rw [hG]; exact grownCap_le_maxLen w _ _ _ (by unfold maxLen; omega)
  obtain ⟨ROW, hROW⟩ : ∃ ROW : List Value, ROW = ((encL (l.take i)).toArray ++ Builtin.zeroCells (Value.agg #[.string ⟨#[]⟩, .string ⟨#[]⟩]).cells (n + 1 - i) ++ Builtin.zeroCells (Value.agg #[.string ⟨#[]⟩, .string ⟨#[]⟩]).cells (G - (n + 1))).toList := ⟨_, rfl⟩
  have hRl : ROW.length = G * 2 := by
    rw [hROW, Array.length_toList, Array.size_append, Array.size_append, size_zeroCells, size_zeroCells]
    show (encL (l.take i)).length + (n + 1 - i) * 2 + (G - (n + 1)) * 2 = G * 2
    rw [hti]
    omega
  have hRt : ROW.take (i * 2) = encL (l.take i) := by
    rw [hROW, Array.toList_append, Array.toList_append, List.append_assoc]
    exact List.take_left' hti
  have hrz : ∀ ty, (Builtin.append_ #[38, 3] ty #[.slice (some ⟨b, 0, none⟩) i kc, .int .i64 ((n : Int) + 1 - (i : Int))]).run Tryd.prog w = .ok (.slice (some ⟨w.heap.size, 0, none⟩) (n + 1) G) (w.drew.alloc (.cells ROW.toArray 79)) := fun ty => by
    have h := Lib.run_append_grow_zeros w 38 3 ty 79 i0 _ .i64 .i64 Tryd.underlying38 Tryd.underlying3 I0 I1 (some ⟨b, 0, none⟩) i kc (encL (l.take i)) hold (n + 1 - i) (by omega) (by omega) (by omega) (by omega) (by rw [I3]; omega) (by rw [I3, hik]; exact growslice_fits hr (by omega))
    rw [hik, ← hG] at h
    rw [hkk, hROW, Array.toArray_toList]
    exact h
  obtain ⟨W1, hW1⟩ : ∃ W1, w.drew.alloc (.cells ROW.toArray 79) = W1 := ⟨_, rfl⟩
  have hN : W1.heap[w.heap.size]? = some (.cells ROW.toArray 79 (0, 0)) := by rw [← hW1]; exact heap_alloc_new w.drew _
  have hO : ∀ k, k < w.heap.size → W1.heap[k]? = w.heap[k]? := fun k hk => by rw [← hW1]; exact Below.heap_alloc w.drew _ k hk
  have hB1 : Below w.heap.size w W1 := by rw [← hW1]; exact ((Below.refl w.heap.size w).drew).alloc (Nat.le_refl _) _
  rw [hW1] at hrz
  have hR1l : (over ROW (i * 2) (encA a)).length = ROW.length := over_len _ _ _ (by show i * 2 + 2 ≤ _; omega)
  have hcpA : ∀ ty dc, (Builtin.copy_ #[38, 38] ty #[.slice (some ⟨w.heap.size, i * 2, none⟩) (n + 1 - i) dc, .slice (some ⟨vb, 0, none⟩) 1 1]).run Tryd.prog W1 = .ok (goInt 1) (W1.setRow w.heap.size (over ROW (i * 2) (encA a)).toArray) := fun ty dc => by
    refine copy_run W1 _ _ ty 79 2 w.heap.size (i * 2) (n + 1 - i) dc ⟨vb, 0, none⟩ 1 1 1 ROW 79 (encA a) Tryd.underlying38 hs2 hN (by simp only [Nat.min_def]; split <;> omega) rfl (cells_at (cur := [.string a.1, .string a.2]) ((hO vb hvw).trans hv) 0 _ rfl) (by show i * 2 + 2 ≤ _; omega) (encA_one _)
  obtain ⟨W2, hW2⟩ : ∃ W2, W1.setRow w.heap.size (over ROW (i * 2) (encA a)).toArray = W2 := ⟨_, rfl⟩
  have hN2 : W2.heap[w.heap.size]? = some (.cells (over ROW (i * 2) (encA a)).toArray 79 (0, 0)) := by rw [← hW2]; exact setRow_heap W1 _ _ _ _ _ hN
  have hb2 : W2.heap[b]? = some (.cells cur.toArray 79 (0, 0)) := by rw [← hW2, setRow_other W1 _ _ _ (by omega), hO b hbw]; exact hb
  have hB2 : Below w.heap.size w W2 := by
    rw [← hW2]
    exact hB1.trans ⟨rfl, rfl, rfl, by simp [World.setRow], fun k hk => setRow_other W1 _ _ _ (by omega)⟩
  rw [hW2] at hcpA
  have hcpB : ∀ ty dc sc, (Builtin.copy_ #[38, 38] ty #[.slice (some ⟨w.heap.size, (i + 1) * 2, none⟩) (n - i) dc, .slice (some ⟨b, i * 2, none⟩) (n - i) sc]).run Tryd.prog W2.drew = .ok (goInt ((n - i : Nat) : Int)) (W2.drew.setRow w.heap.size (over (over ROW (i * 2) (encA a)) ((i + 1) * 2) (encL (l.drop i))).toArray) := fun ty dc sc => by
    refine copy_run W2.drew _ _ ty 79 2 w.heap.size ((i + 1) * 2) (n - i) dc ⟨b, i * 2, none⟩ (n - i) sc (n - i) (over ROW (i * 2) (encA a)) 79 (encL (l.drop i)) Tryd.underlying38 hs2 hN2 (by simp only [Nat.min_def]; split <;> omega) hd (cells_at (w := W2.drew) hb2 _ _ ?_) (by rw [hd, hR1l]; omega) (encL_one _)
    rw [hd, ← encL_drop, ← ht, List.drop_take]
    congr 1
    omega
  have hfin := laid_over ROW l i a (by omega) hRt
  rw [hl] at hfin
  have hR2l : (over (over ROW (i * 2) (encA a)) ((i + 1) * 2) (encL (l.drop i))).length = G * 2 := by rw [over_len _ _ _ (by rw [hd, hR1l]; omega), hR1l, hRl]
  obtain ⟨R2, hR2⟩ : ∃ R2, over (over ROW (i * 2) (encA a)) ((i + 1) * 2) (encL (l.drop i)) = R2 := ⟨_, rfl⟩
  rw [hR2] at hcpB hfin hR2l
  have DN : Hid ((W2.drew.setRow w.heap.size R2.toArray).heap[w.heap.size]? = some (.cells R2.toArray 79 (0, 0)) ∧ R2.length = G * 2 ∧ R2.take ((n + 1) * 2) = encL (insT l i a) ∧ Below w.heap.size w (W2.drew.setRow w.heap.size R2.toArray)) := hid
    ⟨setRow_heap W2.drew _ _ _ _ _ hN2, hR2l, hfin, hB2.trans ⟨rfl, rfl, rfl, by simp [World.setRow], fun k hk => setRow_other W2.drew _ _ _ (by omega)⟩⟩
  clear hfin hR2l hR2 hN2 hb2 hB2 hN hO hB1 hR1l hRl hRt hROW hd hti hold hik hkk hb hv ht hs2 hG
  have mixed : Tryd.prog.follows .mixedOrders = true := by kernel_rfl
  have hG63 : G ≤ 9223372036854775807 := hG2
  have hd1 : ¬ ((i : Int) = (n : Int)) := by omega
  have hz3 : (kc : Int) < (n : Int) + 1 := by omega
  have hw1 : IntKind.i64.wrap ((i : Int) + 1) = (i : Int) + 1 := by rw [IntKind.wrap_i64]; omega
  have hb1 : (0 : Int) ≤ (i : Int) + 1 := by omega
  have hin : i ≤ n := by omega
  have htn : ((i : Int) + 1).toNat = i + 1 := by omega
  have hGi : ¬ (G = i) := by omega
  have hGim : ¬ (G = i + 1) := by omega
  have hci : ¬ (kc = i) := by omega
  have hb3 : (i : Int) ≤ (n : Int) := by omega
  go_enter Tryd.func43, Tryd.ntmps43
  go_wp2_with (first
    | (at_builtin; refine Lib.wpList_append_run _ rfl _ _ _ _ rfl _ _ rfl rfl _ _ (hrz _) ?_)
    | (at_builtin; refine wpList_copy_runI _ rfl _ _ 38 38 rfl _ _ rfl rfl (hcpA _ _) ?_))
  go_region_law_o (refine step_copy_runI rfl _ _ 38 38 rfl _ _ (by simp [Act.eval, Act.put]) (by simp [Act.eval, Act.put]) (hcpB _ _ _) ?_)
  go_wp2
  go_ret
  exact ⟨G, R2, rfl, hG1, hG2, DN.out⟩
set_option maxRecDepth 100000 in
set_option maxHeartbeats 4000000 in
/-- At the end: appended. -/
theorem ains_end {w : World} {B b vb n kc : Nat} {l : List L.Attr} {ka : Option Addr} (a : L.Attr) (h : w.ownsRow B 79 2 (.slice ka n kc) n (encL l)) (hk : (ka = none ∧ n = 0 ∧ kc = 0) ∨ (ka = some ⟨b, 0, none⟩ ∧ n ≤ kc ∧ kc ≤ maxLen)) (hv : w.heap[vb]? = some (.cells #[.string a.1, .string a.2] 79 (0, 0))) (hbig : n ≤ 100000) (hB : B ≤ w.heap.size) :
    Calls Tryd.prog 43 #[.slice ka n kc, .int .i64 (n : Int), .slice (some ⟨vb, 0, none⟩) 1 1] w fun e w' => ∃ g cap, e = .returned (.slice (some ⟨g, 0, none⟩) (n + 1) cap) ∧ w'.ownsRow B 79 2 (.slice (some ⟨g, 0, none⟩) (n + 1) cap) (n + 1) (encL l ++ encA a) ∧ w.grownBy w' (Value.slice ka n kc).ownBlock ∧ ((Value.slice ka n kc).ownBlock = some g ∨ g = w.heap.size) := by
  obtain ⟨i0, I0, I1, I2, I3⟩ := info_parts N.infoA
  have HM : Hid (n + 1 ≤ maxLen ∧ (n + 1) * 32 ≤ 140737488355328) := hid (by unfold maxLen; omega)
  have HO := hid h
  have HNW := hid (World.news_of_block hv)
  have HA1 := hid (encA_one a)
  clear h hv
  rcases hk with ⟨rfl, rfl, rfl⟩ | ⟨rfl, h1, h2⟩
  · have : ((0 : Nat) : Int) = 0 := rfl
    rw [this]
    clear this
    go_enter Tryd.func43, Tryd.ntmps43
    go_wp2_with (at_builtin; refine wpList_append_lies _ rfl (.tmp 23) (.tmp 24) 38 rfl B 79 i0 (.agg #[.string ⟨#[]⟩, .string ⟨#[]⟩]) 2 32 Tryd.underlying38 I0 I1 I2 I3 rfl (by decide) _ 0 (encL l) rfl HO.out ⟨vb, 0, none⟩ 1 1 (encA a) rfl rfl HNW.out HA1.out (by decide) HM.out.1 HM.out.2 hB _ rfl ?_)
    intro g cap w' hown hgrow hloc _
    have H1 := hid hown
    have H2 := hid hgrow
    have H3 := hid hloc
    clear hown hgrow hloc
    go_wp2
    go_ret
    exact ⟨_, _, rfl, H1.out, H2.out, H3.out⟩
  · have h63 : kc ≤ 9223372036854775807 := h2
    go_enter Tryd.func43, Tryd.ntmps43
    go_wp2_with (at_builtin; refine wpList_append_lies _ rfl (.tmp 23) (.tmp 24) 38 rfl B 79 i0 (.agg #[.string ⟨#[]⟩, .string ⟨#[]⟩]) 2 32 Tryd.underlying38 I0 I1 I2 I3 rfl (by decide) _ n (encL l) rfl HO.out ⟨vb, 0, none⟩ 1 1 (encA a) rfl rfl HNW.out HA1.out (by decide) HM.out.1 HM.out.2 hB _ rfl ?_)
    all_goals (
      intro g cap w' hown hgrow hloc _
      have H1 := hid hown
      have H2 := hid hgrow
      have H3 := hid hloc
      clear hown hgrow hloc
      go_wp2
      go_ret
      exact ⟨_, _, rfl, H1.out, H2.out, H3.out⟩)
theorem ains_any {w : World} {B vb n kc i : Nat} {l : List L.Attr} {ka : Option Addr} (a : L.Attr) (h : w.ownsRow B 79 2 (.slice ka n kc) n (encL l)) (hi : i ≤ n) (hv : w.heap[vb]? = some (.cells #[.string a.1, .string a.2] 79 (0, 0))) (hne : (Value.slice ka n kc).ownBlock ≠ some vb) (hbig : n ≤ 100000) (hB : B ≤ w.heap.size) :
    Calls Tryd.prog 43 #[.slice ka n kc, .int .i64 (i : Int), .slice (some ⟨vb, 0, none⟩) 1 1] w fun e w' => ∃ g cap, e = .returned (.slice (some ⟨g, 0, none⟩) (n + 1) cap) ∧ w'.ownsRow B 79 2 (.slice (some ⟨g, 0, none⟩) (n + 1) cap) (n + 1) (encL (insT l i a)) ∧ w.grownBy w' (Value.slice ka n kc).ownBlock ∧ ((Value.slice ka n kc).ownBlock = some g ∨ g = w.heap.size) := by
  have hln : l.length = n := by have := h.1; rw [encL_length] at this; omega
  by_cases hin : i = n
  · subst hin
    have e : encL (insT l i a) = encL l ++ encA a := by
      rw [insT, List.take_of_length_le (by omega), List.drop_eq_nil_of_le (by omega), encL_app]
      simp [encL]
    rw [e]
    rcases h.2 with ⟨q, hn0⟩ | ⟨b, cap, cur, q, hbB, k2, k3, k4, k5, k6⟩
    · simp only [Value.slice.injEq] at q
      obtain ⟨rfl, -, rfl⟩ := q
      exact ains_end (b := 0) a h (Or.inl ⟨rfl, hn0, rfl⟩) hv hbig hB
    · simp only [Value.slice.injEq] at q
      obtain ⟨rfl, -, rfl⟩ := q
      exact ains_end (b := b) a h (Or.inr ⟨rfl, k3, k4⟩) hv hbig hB
  · rcases h.2 with ⟨q, hn0⟩ | ⟨b, cap, cur, q, hbB, k2, k3, k4, k5, k6⟩
    · omega
    · simp only [Value.slice.injEq] at q
      obtain ⟨rfl, -, rfl⟩ := q
      have hc : w.heap[b]? = some (.cells cur.toList.toArray 79 (0, 0)) := by rw [Array.toArray_toList]; exact k2
      have hcl : cur.toList.length = kc * 2 := by rw [Array.length_toList]; exact k5
      have hvb : vb ≠ b := fun e => hne (by rw [e]; rfl)
      have h63 : kc ≤ 9223372036854775807 := k4
      have hel : (encL (insT l i a)).length = (n + 1) * 2 := by rw [encL_length, insT_len _ _ _ (by omega), hln]
      by_cases hr : n + 1 ≤ kc
      · refine (ains_shift a cur.toList hc hv hvb hln (by omega) hr h63 hcl k6).mono ?_
        rintro e w' ⟨rfl, rfl⟩
        have hd : (encL (l.drop i)).length = (n - i) * 2 := by rw [encL_length, List.length_drop, hln]
        have l1 : (over cur.toList ((i + 1) * 2) (encL (l.drop i))).length = kc * 2 := by rw [over_len _ _ _ (by rw [hd]; omega), hcl]
        have l2 : (over (over cur.toList ((i + 1) * 2) (encL (l.drop i))) (i * 2) (encA a)).length = kc * 2 := by rw [over_len _ _ _ (by rw [l1]; show i * 2 + 2 ≤ _; omega), l1]
        have hs := shift_over cur.toList l i a (by omega) (by omega) (by rw [hln]; exact k6)
        rw [hln] at hs
        have g1 := setRow_heap w.drew b cur (over cur.toList ((i + 1) * 2) (encL (l.drop i))).toArray 79 (0, 0) k2
        refine ⟨b, kc, rfl, ⟨hel, Or.inr ⟨b, kc, _, rfl, hbB, setRow_heap _ b _ _ _ _ g1, hr, k4, by simpa using l2, by simpa using hs⟩⟩, ?_, Or.inl rfl⟩
        have z1 := setRow_grown w.drew b (over cur.toList ((i + 1) * 2) (encL (l.drop i))).toArray
        have z2 := setRow_grown (w.drew.setRow b (over cur.toList ((i + 1) * 2) (encL (l.drop i))).toArray) b (over (over cur.toList ((i + 1) * 2) (encL (l.drop i))) (i * 2) (encA a)).toArray
        exact ⟨z2.os.trans z1.os, z2.tape.trans z1.tape, z2.output.trans z1.output, Nat.le_trans z1.size z2.size, fun k hk hn => (z2.block k (Nat.lt_of_lt_of_le hk z1.size) hn).trans (z1.block k hk hn)⟩
      · refine (ains_grow a cur.toList hc hv hln (by omega) k3 (by omega) hbig k6).mono ?_
        rintro e w' ⟨G, row, rfl, g1, g2, g3, g4, g5, g6⟩
        exact ⟨_, _, rfl, ⟨hel, Or.inr ⟨w.heap.size, G, _, rfl, hB, g3, g1, g2, by simpa using g4, by simpa using g5⟩⟩, ⟨g6.os, g6.tape, g6.output, g6.size, fun k hk _ => g6.block k hk⟩, Or.inr rfl⟩
end N
end Go.Proofs.YtidccohjehegjaaDoor
