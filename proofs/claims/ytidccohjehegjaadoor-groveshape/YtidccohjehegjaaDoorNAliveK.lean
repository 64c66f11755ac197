/- The walks of the document's SameIds, and of the statements' own 'doc' and 'alive'. -/
import Derived.Test.YtidccohjehegjaaDoorNScriptK
namespace Go.Proofs.YtidccohjehegjaaDoor
open Go.RowKit Go.Shelf
namespace N
open T
section
variable {w : World}
theorem int_cells {V : Value} {l : List Int} {w : World} (h : IntsIn V l w) : ∃ a c, V = .slice a l.length c ∧ l.length ≤ 9223372036854775807 ∧ (l ≠ [] → ∃ q o, a = some ⟨q, o, none⟩ ∧ q < w.heap.size ∧ ∀ j (hj : j < l.length), w.cell? ⟨q, o + j, none⟩ = some (.int .i64 l[j])) := h
set_option maxRecDepth 100000 in
set_option maxHeartbeats 4000000 in
theorem sameIds_any (V V' : Value) (l l' : List Int) (I : Hid (IntsIn V l w)) (I' : Hid (IntsIn V' l' w)) (r : Bool) (HR : Hid (decide (l = l') = r)) : Calls Tryd.prog 22 #[V, V'] w fun e w' => e = .returned (.bool r) ∧ Below w.heap.size w w' := by
  obtain ⟨a, c, rfl, hl, hc⟩ := int_cells I.out
  obtain ⟨a', c', rfl, hl', hc'⟩ := int_cells I'.out
  have HC := hid hc
  have HC' := hid hc'
  clear hc hc'
  by_cases hlen : l.length = l'.length
  · have hlen' : ((l.length : Int) != (l'.length : Int)) = false := by simp [hlen]
    go_enter Tryd.func22, Tryd.ntmps22
    go_wp2
    go_loopw [5] (fun v5 X => ∃ q : Nat, v5 = .int .i64 (q : Int) ∧ q ≤ l.length ∧ Hid (∀ j (h : j < l.length) (h' : j < l'.length), j < q → l[j] = l'[j]) ∧ Hid (Below w.heap.size w X)) (fun v5 _ => l.length - (intOf v5).toNat)
    case atStart => exact ⟨0, rfl, by omega, hid (fun j h h' q => by omega), hid (Below.refl _ _)⟩
    case round =>
      obtain ⟨q, rfl, hq, HP, HG⟩ := hrel
      by_cases h1 : q < l.length
      · have h1' : (q : Int) < (l.length : Int) := by omega
        have h2 : q < l'.length := by omega
        have h2' : (q : Int) < (l'.length : Int) := by omega
        obtain ⟨g, o, rfl, hg, hcc⟩ := HC.out (by rintro rfl; simp at h1)
        obtain ⟨g', o', rfl, hg', hcc'⟩ := HC'.out (by rintro rfl; simp at h2)
        have e1 : ∀ m, (wr.drewN m).cell? ⟨g, o + q, none⟩ = some (.int .i64 l[q]) := fun m => (HG.out.cell (p := ⟨g, o + q, none⟩) hg).trans (hcc q h1)
        have e2 : ∀ m, (wr.drewN m).cell? ⟨g', o' + q, none⟩ = some (.int .i64 l'[q]) := fun m => (HG.out.cell (p := ⟨g', o' + q, none⟩) hg').trans (hcc' q h2)
        obtain ⟨x, HX⟩ : ∃ x, Hid (l[q] = x) := ⟨_, hid rfl⟩
        obtain ⟨y, HY⟩ : ∃ y, Hid (l'[q] = y) := ⟨_, hid rfl⟩
        rw [HX.out] at e1
        rw [HY.out] at e2
        clear hcc hcc' hlen'
        by_cases hxy : x = y
        · subst hxy
          have hb : (x != x) = false := by simp
          go_wp2
          go_quiet (fail)
          go_wp2
          go_roundw
          case rel =>
            refine ⟨q + 1, by go_num, by omega, hid fun j h h' z => ?_, hid (below_drewN HG.out _)⟩
            by_cases zz : j = q
            · subst zz; rw [HX.out, HY.out]
            · exact HP.out j h h' (by omega)
          case measure => (simp [intOf]; try omega)
        · have hb : (x != y) = true := by simpa using hxy
          have hr : r = false := by
            rw [← HR.out]
            refine decide_eq_false (fun z => hxy ?_)
            rw [← HX.out, ← HY.out]
            simp only [z]
          subst hr
          go_wp2
          go_quiet (fail)
          go_wp2
          go_ret
          exact ⟨rfl, below_drewN HG.out _⟩
      · obtain rfl : q = l.length := by omega
        have h1' : ¬ (l.length : Int) < (l.length : Int) := by omega
        have hr : r = true := by
          rw [← HR.out]
          refine decide_eq_true (List.ext_getElem hlen fun j h h' => HP.out j h h' h)
        subst hr
        clear hlen'
        go_wp2
        go_ret
        exact ⟨rfl, HG.out⟩
  · have hlen' : ((l.length : Int) != (l'.length : Int)) = true := by
      simp only [bne_iff_ne, ne_eq]
      omega
    have hr : r = false := by
      rw [← HR.out]
      exact decide_eq_false (fun q => hlen (by rw [q]))
    subst hr
    clear hlen
    go_enter Tryd.func22, Tryd.ntmps22
    go_wp2
    go_ret
    exact ⟨rfl, Below.refl _ _⟩
/-- The first document, and what is put into it. -/
def x0 : P.Itm := ⟨0, 1, ⟨#[97]⟩, ⟨#[]⟩, []⟩
def x1 : P.Itm := ⟨1, 2, ⟨#[]⟩, ⟨#[120]⟩, []⟩
def y0 : P.Itm := ⟨0, 1, ⟨#[98]⟩, ⟨#[]⟩, []⟩
def y1 : P.Itm := ⟨1, 2, ⟨#[]⟩, ⟨#[121]⟩, []⟩
def z0 : P.Itm := ⟨1, 1, ⟨#[98]⟩, ⟨#[]⟩, []⟩
def z1 : P.Itm := ⟨2, 2, ⟨#[]⟩, ⟨#[121]⟩, []⟩
def f1 : F := some ⟨1, x0, some ⟨2, x1, none, none⟩, none⟩
def f2 : F := some ⟨1, x0, some ⟨2, x1, none, some ⟨3, z0, some ⟨4, z1, none, none⟩, none⟩⟩, none⟩
def f3 : F := some ⟨1, x0, some ⟨3, z0, some ⟨4, z1, none, none⟩, some ⟨2, x1, none, none⟩⟩, none⟩
theorem a1 : loadF none 1 [x0, x1] = ((f1, 3), 1, 0) := by kernel_rfl
theorem d1 : (ids f1).Nodup := by simp [ids, f1]
theorem d2 : (ids f2).Nodup := by simp [ids, f2]
theorem c1 : (chain f1 0 1).length = 1 := by simp [chain, f1]
theorem a2 : insertF f1 3 1 1 [y0, y1] = ((f2, 5), 3, 0) := by
  have he : (⟨1, 0, atL x0 0, [2]⟩ : Nd) ∈ T.ents f1 0 := by simp [T.ents, f1, tops]
  have hu : uninE 3 (ids f1).length [(2 : Int)].length 1 1 [y0, y1] = 0 := by
    rw [show (ids f1).length = 2 by simp [ids, f1]]
    kernel_rfl
  have hf : forestOf 3 1 [y0, y1] = some ⟨3, z0, some ⟨4, z1, none, none⟩, none⟩ := by kernel_rfl
  have := insertF_in d1 he 3 1 [y0, y1]
  dsimp only at this
  rw [c1, hu] at this
  rw [this, if_neg (by decide), if_neg (by decide)]
  rw [show ((1 : Nat) : Int) = 1 from rfl, hf]
  simp [ins, insAt, app, f1, f2]
theorem a3 : moveF f2 3 1 0 = (f3, 0) := by
  have he : (⟨3, 1, atL z0 0, [4]⟩ : Nd) ∈ T.ents f2 0 := by simp [T.ents, f2, tops]
  have hep : (⟨1, 0, atL x0 0, [2, 3]⟩ : Nd) ∈ T.ents f2 0 := by simp [T.ents, f2, tops]
  have hone : ∀ i ∈ tops f2, i = rootF f2 := by simp [tops, f2, rootF]
  have hk : ∀ e ∈ T.ents f2 0, e.x.kind = 1 ∨ e.x.kind = 2 := by
    simp [T.ents, f2, tops, atL, x0, x1, z0, z1]
  have hs : sub f2 3 = some ⟨3, z0, some ⟨4, z1, none, none⟩, none⟩ := by simp [sub, f2]
  have hc : chain f2 0 1 = [⟨1, 0, atL x0 0, [2, 3]⟩] := by simp [chain, f2, tops]
  have hu : unmovE f2 ⟨3, 1, atL z0 0, [4]⟩ ⟨1, 0, atL x0 0, [2, 3]⟩ 0 = 0 := by
    unfold unmovE
    dsimp only
    rw [hs, hc]
    simp [rootF, f2, atL, x0, othersE, rows, high, z0, z1]
    decide
  have := moveF_in d2 hone hk he hep 0
  dsimp only at this
  rw [this, hu, if_neg (by decide), hs]
  simp [T.del, ins, insAt, app, f2, f3]
theorem a4 : ids (sub f2 (rootF f2)) = [1, 2, 3, 4] := by simp [ids, sub, f2, rootF]
theorem a5 : ids (sub f3 (rootF f3)) = [1, 3, 4, 2] := by simp [ids, sub, f3, rootF]
theorem a6 : (ids f3).length = 4 := by simp [ids, f3]
theorem nil_attrs (w : World) : AttrsIn (.slice none 0 0) [] w := ⟨none, 0, rfl, by simp, fun h => absurd rfl h⟩
def twoA (x y : P.Itm) : Array Value := #[.int .i64 x.level, .int .i64 x.kind, .string x.name, .string x.text, .slice none 0 0, .int .i64 y.level, .int .i64 y.kind, .string y.name, .string y.text, .slice none 0 0]
/-- Two items in a block. -/
theorem two_items {w : World} {g : Nat} {x y : P.Itm} (hx : x.attrs = []) (hy : y.attrs = []) (h : w.heap[g]? = some (.cells (twoA x y) 49 (0, 0))) :
    ItemsIn (.slice (some ⟨g, 0, none⟩) 2 2) [(x, .slice none 0 0), (y, .slice none 0 0)] w := by
  have c : ∀ j, w.cell? ⟨g, j, none⟩ = (twoA x y)[j]? := Lib.cell_of_heap h
  refine ⟨⟨some ⟨g, 0, none⟩, 2, rfl, by simp, fun _ => ⟨g, 0, rfl, lt_of_block h, fun j hj => ?_⟩⟩, fun z hz => ?_⟩
  · simp only [List.length_cons, List.length_nil] at hj
    rcases (show j = 0 ∨ j = 1 by omega) with rfl | rfl
    · exact ⟨c 0, c 1, c 2, c 3, c 4⟩
    · exact ⟨c 5, c 6, c 7, c 8, c 9⟩
  · simp only [List.mem_cons, List.not_mem_nil, or_false] at hz
    rcases hz with rfl | rfl
    · dsimp only; rw [hx]; exact nil_attrs w
    · dsimp only; rw [hy]; exact nil_attrs w
/-- Numbers in a block. -/
theorem ints_block {w : World} {g : Nat} (l : List Int) (hl : l.length ≤ 9223372036854775807) (h : w.heap[g]? = some (.cells (encK l).toArray 3 (0, 0))) : IntsIn (.slice (some ⟨g, 0, none⟩) l.length l.length) l w := by
  refine ⟨some ⟨g, 0, none⟩, l.length, rfl, hl, fun _ => ⟨g, 0, rfl, lt_of_block h, fun j hj => ?_⟩⟩
  rw [Lib.cell_of_heap h, Nat.zero_add, List.getElem?_toArray, encK, List.getElem?_map, List.getElem?_eq_getElem hj]
  rfl
theorem doc_any (w : World) : Calls Tryd.prog 20 #[] w fun e w' => e = .returned (.slice (some ⟨w.heap.size, 0, none⟩) 2 2) ∧ w' = w.alloc (.cells (twoA x0 x1) 49) := by
  go_enter Tryd.func20, Tryd.ntmps20
  go_wp2
  go_ret
  exact ⟨rfl, rfl⟩
theorem fit_small {x : P.Itm} (h1 : -9223372036854775808 ≤ x.level ∧ x.level ≤ 9223372036854775807) (h2 : -9223372036854775808 ≤ x.kind ∧ x.kind ≤ 9223372036854775807) (h3 : x.name.size ≤ 100) (h4 : x.text.size ≤ 100) (h5 : x.attrs = []) : FitC x :=
  ⟨h1, h2, by unfold maxLen; omega, by unfold maxLen; omega, by rw [h5]; simp⟩
theorem wf_small {i : Int} (h : 0 ≤ i) (h2 : i ≤ 2147483647) : wfI i := by
  simp only [wfI, Lit.wf, Bool.and_eq_true, decide_eq_true_eq]
  exact ⟨Int.le_trans (by decide : IntKind.i64.min ≤ 0) h, Int.le_trans (by omega : i ≤ 9223372036854775807) (by decide)⟩
theorem good1 : T.Good f1 3 := by
  have := T.load_good T.Good.new [x0, x1]
  rw [a1] at this
  exact this
theorem good2 : T.Good f2 5 := by
  have := T.insert_good good1 1 1 [y0, y1]
  rw [a2] at this
  exact this
theorem good3 : T.Good f3 5 := by
  have := T.move_good good2 3 1 0
  rw [a3] at this
  exact this
set_option maxRecDepth 100000 in
set_option maxHeartbeats 4000000 in
theorem alive_any (w : World) (ht : Tab w) : Calls Tryd.prog 8 #[] w fun e w' => e = .returned (.bool true) ∧ Below w.heap.size w w' := by
  have HT := hid ht
  clear ht
  go_enter Tryd.func8, Tryd.ntmps8
  go_wp2_with fail
  refine (new_any w).mono ?_
  rintro e w1 ⟨tb, mb, L, rfl, ht1, hb1⟩
  have T1 := hid ht1
  have HB1 := hid hb1
  clear ht1 hb1
  go_wp2_with fail
  refine (doc_any w1).mono ?_
  rintro e w2 ⟨rfl, hw2⟩
  have hA2 : Below w1.heap.size w1 w2 := by rw [hw2]; exact (Below.refl _ _).alloc (Nat.le_refl _) _
  have hN2 : w2.heap[w1.heap.size]? = some (.cells (twoA x0 x1) 49 (0, 0)) := by rw [hw2]; exact heap_alloc_new w1 _
  have I2 := hid (two_items (x := x0) (y := x1) rfl rfl hN2)
  have T2 := hid (T1.out.below hA2)
  have HB2 := hid (HB1.out.trans (hA2.mono HB1.out.size))
  clear hw2 hA2 hN2 T1
  have LD := hid (load_any2 T2 _ _ I2 (hid (by
    intro x hx
    simp only [List.mem_cons, List.not_mem_nil, or_false] at hx
    rcases hx with rfl | rfl
    · exact fit_small (by decide) (by decide) (by decide) (by decide) rfl
    · exact fit_small (by decide) (by decide) (by decide) (by decide) rfl)) (hid (HT.out.below HB2.out)) (by omega) (by omega))
  simp only [List.map_cons, List.map_nil, a1] at LD
  go_wp2_with fail
  refine LD.out.mono ?_
  rintro e w3 ⟨rfl, hL3⟩
  have hB3 : Below w.heap.size w w3 := HB2.out.trans (hL3.turns.below (fun b hb => by
    rcases List.mem_cons.1 hb with z | z
    · rw [z]; exact T2.out.tbB
    · exact T2.out.graph.ge b z) HB2.out.size)
  have HB3 := hid hB3
  obtain ⟨⟨mb3, L3, ht3, _⟩, _⟩ := hL3
  have T3 := hid ht3
  clear hB3 ht3 LD T2 I2
  have hA4 : Below w3.heap.size w3 (w3.alloc (.cells (twoA y0 y1) 49)) := (Below.refl _ _).alloc (Nat.le_refl _) _
  have hN4 := heap_alloc_new w3 (.cells (twoA y0 y1) 49)
  obtain ⟨w4, hw4⟩ : ∃ w4, w3.alloc (.cells (twoA y0 y1) 49) = w4 := ⟨_, rfl⟩
  rw [hw4] at hA4 hN4
  have T4 := hid (T3.out.below hA4)
  have HB4 := hid (HB3.out.trans (hA4.mono HB3.out.size))
  have htb3 := lt_of_block T3.out.top
  have IN := hid (insert_any T4 (hid good1.fine) (by omega) (by omega) (hid (fun i hi => (good1.lt i hi).2)) 1 1 (wf_small (by decide) (by decide)) (.slice (some ⟨w3.heap.size, 0, none⟩) 2 2) [(y0, .slice none 0 0), (y1, .slice none 0 0)] (by simp) (hid (fun w' hw' => two_items rfl rfl ((hw'.block w3.heap.size (lt_of_block hN4) (fun z => by have := List.mem_singleton.1 z; omega)).trans hN4))) (hid (by
    intro x hx
    simp only [List.mem_cons, List.not_mem_nil, or_false] at hx
    rcases hx with rfl | rfl
    · exact fit_small (by decide) (by decide) (by decide) (by decide) rfl
    · exact fit_small (by decide) (by decide) (by decide) (by decide) rfl)) (hid (HT.out.below HB4.out)))
  simp only [List.map_cons, List.map_nil, a2] at IN
  have hw4' : w3.alloc (.cells #[.int .i64 0, .int .i64 1, .string ⟨#[98]⟩, .string ⟨#[]⟩, .slice none 0 0, .int .i64 1, .int .i64 2, .string ⟨#[]⟩, .string ⟨#[121]⟩, .slice none 0 0] 49) = w4 := hw4
  clear hN4 hA4 hw4 T3 htb3
  go_wp2_with fail
  refine IN.out.mono ?_
  rintro e w5 ⟨rfl, hL5⟩
  have hB5 : Below w.heap.size w w5 := HB4.out.trans (hL5.turns.below (fun b hb => by
    rcases List.mem_cons.1 hb with z | z
    · rw [z]; exact T4.out.tbB
    · exact T4.out.graph.ge b z) HB4.out.size)
  have HB5 := hid hB5
  obtain ⟨⟨mb5, L5, ht5, _⟩, _⟩ := hL5
  have T5 := hid ht5
  clear hB5 ht5 IN T4 hw4'
  go_wp2_with fail
  refine (order_any T5 (hid good2.fine) (wf_small (by decide) (by decide)) HB5.out.size).mono ?_
  rintro e w6 ⟨V6, rfl, hr6, hb6⟩
  rw [a4] at hr6
  have HB6 := hid (HB5.out.trans (hb6.mono HB5.out.size))
  have T6 := hid (T5.out.below hb6)
  have J6 := hid (IntRow.ints hr6 (by simp))
  clear hr6 hb6 T5
  go_wp2_with fail
  have hA7 : Below w6.heap.size w6 (w6.alloc (.cells (encK [1, 2, 3, 4]).toArray 3)) := (Below.refl _ _).alloc (Nat.le_refl _) _
  have hN7 := heap_alloc_new w6 (.cells (encK [1, 2, 3, 4]).toArray 3)
  obtain ⟨w7, hw7⟩ : ∃ w7, w6.alloc (.cells #[.int .i64 1, .int .i64 2, .int .i64 3, .int .i64 4] 3) = w7 := ⟨_, rfl⟩
  have hw7' : w6.alloc (.cells (encK [1, 2, 3, 4]).toArray 3) = w7 := hw7
  rw [hw7'] at hA7 hN7
  rw [hw7]
  refine (sameIds_any V6 (.slice (some ⟨w6.heap.size, 0, none⟩) 4 4) [1, 2, 3, 4] [1, 2, 3, 4] (hid (by
    obtain ⟨a, c, e1, e2, e3⟩ := int_cells J6.out
    refine ⟨a, c, e1, e2, fun hne => ?_⟩
    obtain ⟨q, o, e4, e5, e6⟩ := e3 hne
    exact ⟨q, o, e4, Nat.lt_of_lt_of_le e5 hA7.size, fun j hj => (hA7.cell (p := ⟨q, o + j, none⟩) e5).trans (e6 j hj)⟩)) (hid (ints_block [1, 2, 3, 4] (by simp) hN7)) true (hid (by decide))).mono ?_
  rintro e w8 ⟨rfl, hb8⟩
  have T8 := hid ((T6.out.below hA7).below hb8)
  have HB8 := hid ((HB6.out.trans (hA7.mono HB6.out.size)).trans (hb8.mono (Nat.le_trans HB6.out.size hA7.size)))
  clear hA7 hN7 hw7 hw7' hb8 T6 J6
  have MV := hid (move_any T8 (hid good2.fine) (hid good2.one) (hid good2.kinds) 3 1 0 (wf_small (by decide) (by decide)) (wf_small (by decide) (by decide)))
  rw [a3] at MV
  go_wp2_with fail
  refine MV.out.mono ?_
  rintro e w9 ⟨rfl, hL9⟩
  have hB9 : Below w.heap.size w w9 := HB8.out.trans (hL9.turns.below (fun b hb => by
    rcases List.mem_cons.1 hb with z | z
    · rw [z]; exact T8.out.tbB
    · exact T8.out.graph.ge b z) HB8.out.size)
  have HB9 := hid hB9
  obtain ⟨⟨mb9, L9, ht9, _⟩, _⟩ := hL9
  have T9 := hid ht9
  clear hB9 ht9 MV T8
  go_wp2_with fail
  refine (order_any T9 (hid good3.fine) (wf_small (by decide) (by decide)) HB9.out.size).mono ?_
  rintro e w10 ⟨V10, rfl, hr10, hb10⟩
  rw [a5] at hr10
  have HB10 := hid (HB9.out.trans (hb10.mono HB9.out.size))
  have T10 := hid (T9.out.below hb10)
  have J10 := hid (IntRow.ints hr10 (by simp))
  clear hr10 hb10 T9
  go_wp2_with fail
  have hA11 : Below w10.heap.size w10 (w10.alloc (.cells (encK [1, 3, 4, 2]).toArray 3)) := (Below.refl _ _).alloc (Nat.le_refl _) _
  have hN11 := heap_alloc_new w10 (.cells (encK [1, 3, 4, 2]).toArray 3)
  obtain ⟨w11, hw11⟩ : ∃ w11, w10.alloc (.cells #[.int .i64 1, .int .i64 3, .int .i64 4, .int .i64 2] 3) = w11 := ⟨_, rfl⟩
  have hw11' : w10.alloc (.cells (encK [1, 3, 4, 2]).toArray 3) = w11 := hw11
  rw [hw11'] at hA11 hN11
  rw [hw11]
  refine (sameIds_any V10 (.slice (some ⟨w10.heap.size, 0, none⟩) 4 4) [1, 3, 4, 2] [1, 3, 4, 2] (hid (by
    obtain ⟨a, c, e1, e2, e3⟩ := int_cells J10.out
    refine ⟨a, c, e1, e2, fun hne => ?_⟩
    obtain ⟨q, o, e4, e5, e6⟩ := e3 hne
    exact ⟨q, o, e4, Nat.lt_of_lt_of_le e5 hA11.size, fun j hj => (hA11.cell (p := ⟨q, o + j, none⟩) e5).trans (e6 j hj)⟩)) (hid (ints_block [1, 3, 4, 2] (by simp) hN11)) true (hid (by decide))).mono ?_
  rintro e w12 ⟨rfl, hb12⟩
  have T12 := hid ((T10.out.below hA11).below hb12)
  have HB12 := hid ((HB10.out.trans (hA11.mono HB10.out.size)).trans (hb12.mono (Nat.le_trans HB10.out.size hA11.size)))
  clear hA11 hN11 hw11 hw11' hb12 T10 J10
  have hlen : (L9.length : Int) = 4 := by rw [T12.out.many, a6]; rfl
  have LN := hid (len_any T12)
  rw [hlen] at LN
  go_wp2_with fail
  refine LN.out.mono ?_
  rintro e w13 ⟨rfl, hw13⟩
  rw [hw13]
  clear hw13
  go_wp2
  go_ret
  exact ⟨rfl, HB12.out⟩
end
end N
end Go.Proofs.YtidccohjehegjaaDoor
