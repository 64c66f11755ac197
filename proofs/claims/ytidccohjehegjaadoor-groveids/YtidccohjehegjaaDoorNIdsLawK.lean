/- PROVED: of any script of calls on a tree, GroveIds returns true: ids are given in order, what is inserted has the next ones, and they never fall; the script reads afterwards as it read before. Its conditions: the table of glyph lies as the program's text lays it. -/
import Derived.Test.YtidccohjehegjaaDoorNLiftK
namespace Go.Proofs.YtidccohjehegjaaDoor
open Go.RowKit Go.Shelf
namespace N
open T
/-- How the next id goes on. -/
theorem do_next (f : F) (nx : Int) (o : OpT) : ((doF f nx o).2.2 = 0 ∧ (o.k = 0 ∨ o.k = 1) → (doF f nx o).2.1 = nx ∧ (doF f nx o).1.2 = nx + o.l.length) ∧ (¬ ((doF f nx o).2.2 = 0 ∧ (o.k = 0 ∨ o.k = 1)) → (doF f nx o).1.2 = nx) := by
  unfold doF
  by_cases k0 : o.k = 0
  · rw [if_pos k0]
    unfold loadF
    by_cases q1 : (P.checkP o.l).2 = 0
    · rw [if_neg (by simpa using q1)]
      by_cases q2 : 2147483647 < nx + (o.l.length : Int)
      · rw [if_pos q2]; simp
      · rw [if_neg q2]; simp [k0]
    · rw [if_pos q1]; simp [q1]
  · rw [if_neg k0]
    by_cases k1 : o.k = 1
    · rw [if_pos k1]
      unfold insertF
      split
      · simp
      · split
        · simp
        · split
          · simp
          · split
            · simp
            · split
              · rename_i h; simp [h]
              · split
                · simp
                · split
                  · simp
                  · split
                    · simp
                    · simp [k1]
    · rw [if_neg k1]
      have hk : ¬ (o.k = 0 ∨ o.k = 1) := fun q => q.elim k0 k1
      split
      · simp [hk]
      · split
        · simp [hk]
        · split
          · simp [hk]
          · split
            · simp [hk]
            · split
              · simp [hk]
              · simp [hk]
theorem T.Good.all {f : F} {nx : Int} (h : T.Good f nx) : sub f (rootF f) = f := by
  rcases h.shape with e | ⟨i, x, k, e, _⟩
  · rw [e]; simp [sub]
  · rw [e]; simp [sub, rootF]
theorem T.Good.wfr {f : F} {nx : Int} (h : T.Good f nx) : wfI (rootF f) := by
  rcases h.shape with e | ⟨i, x, k, e, _⟩
  · rw [e]; exact wf_small (by decide) (by decide)
  · have : i ∈ ids f := by rw [e]; simp [ids]
    have h1 := h.lt i this
    have h2 := h.nx2
    rw [e]
    exact wf_small (show 0 ≤ i by omega) (show i ≤ 2147483647 by omega)
end N
open Go.ChangeShapes Go.WideShapes Go.ChangeAt
namespace GroveIds
section
open N T
set_option maxRecDepth 100000 in
set_option maxHeartbeats 8000000 in
theorem walk {w : World} (V : Value) (l : List OV) (I : Hid (OpsIn V l w)) (HFF : Hid (∀ o ∈ l, FitO o)) (ht : Tab w) : Calls Tryd.prog 4 #[V] w fun e w' => e = .returned (.bool true) ∧ Below w.heap.size w w' := by
  have HT := hid ht
  clear ht
  obtain ⟨ao, cap, rfl, hl, hc⟩ := I.out.1
  have HC := hid hc
  clear hc
  go_enter Tryd.func4, Tryd.ntmps4
  go_wp2_with fail
  refine (new_any w).mono ?_
  rintro e w1 ⟨tb, mb, L, rfl, ht1, hb1⟩
  have T1 := hid ht1
  have HB1 := hid hb1
  clear ht1 hb1
  go_wp2_with fail
  refine (few_any _ l (hid (I.out.below HB1.out))).mono ?_
  rintro e w2 ⟨v, rfl, hv, hb2⟩
  have HB2 := hid (HB1.out.trans (hb2.mono HB1.out.size))
  have T2 := hid (T1.out.below hb2)
  clear hb2 T1
  rcases hv with rfl | rfl
  · go_wp2_with fail
    have HTR2 : Hid (∃ mb L, TreeIn w.heap.size tb mb none 1 L w2) := hid ⟨mb, L, T2.out⟩
    clear T2
    go_loopw [27] (fun v27 X => ∃ (q : Nat) (f : F) (nx : Int), v27 = .int .i64 (q : Int) ∧ q ≤ l.length ∧ Hid (T.Good f nx) ∧ Hid (∃ mb L, TreeIn w.heap.size tb mb f nx L X) ∧ Hid (Below w.heap.size w X)) (fun v27 _ => l.length - (intOf v27).toNat)
    case atStart => exact ⟨0, none, 1, rfl, by omega, hid T.Good.new, HTR2, HB2⟩
    case round =>
      obtain ⟨q, f, nx, rfl, hq, HGD, HTR, HG⟩ := hrel
      clear HTR2
      by_cases h1 : q < l.length
      · have h1' : (q : Int) < (l.length : Int) := by omega
        obtain ⟨g, o, rfl, hg, hcc⟩ := HC.out (by rintro rfl; simp at h1)
        obtain ⟨k0, k1, k2, k3, k4, k5, k6⟩ := hcc q h1
        have hB := HG.out
        have c0 := (hB.cell (p := ⟨g, o + q * 7, none⟩) hg).trans k0
        have c1 := (hB.cell (p := ⟨g, o + q * 7 + 1, none⟩) hg).trans k1
        have c2 := (hB.cell (p := ⟨g, o + q * 7 + 2, none⟩) hg).trans k2
        have c3 := (hB.cell (p := ⟨g, o + q * 7 + 3, none⟩) hg).trans k3
        have c4 := (hB.cell (p := ⟨g, o + q * 7 + 4, none⟩) hg).trans k4
        have c5 := (hB.cell (p := ⟨g, o + q * 7 + 5, none⟩) hg).trans k5
        have c6 := (hB.cell (p := ⟨g, o + q * 7 + 6, none⟩) hg).trans k6
        have HI := hid (I.out.2 l[q] (List.getElem_mem h1))
        have HFO := hid (HFF.out l[q] (List.getElem_mem h1))
        obtain ⟨aa, ac, hv, hlx, _⟩ := HI.out.1
        generalize l[q] = x at *
        obtain ⟨mb3, L3, t3⟩ := HTR.out
        have hA := (Below.refl wr.heap.size wr).alloc (Nat.le_refl _) (.cells (cellsO x) 29)
        have hN := heap_alloc_new wr (.cells (cellsO x) 29)
        obtain ⟨ws, hws⟩ : ∃ ws, wr.alloc (.cells (cellsO x) 29) = ws := ⟨_, rfl⟩
        rw [hws] at hA hN
        unfold cellsO at hws hN
        rw [hv] at c6 hws hN
        have T3 := hid (t3.below hA)
        have HBS := hid (hB.trans (hA.mono hB.size))
        have y0 : ws.cell? ⟨wr.heap.size, 0, none⟩ = some (.int .i64 x.k) := by rw [Lib.cell_of_heap hN]; rfl
        have y1 : ws.cell? ⟨wr.heap.size, 1, none⟩ = some (.int .i64 x.id) := by rw [Lib.cell_of_heap hN]; rfl
        have y2 : ws.cell? ⟨wr.heap.size, 2, none⟩ = some (.int .i64 x.to') := by rw [Lib.cell_of_heap hN]; rfl
        have y3 : ws.cell? ⟨wr.heap.size, 3, none⟩ = some (.int .i64 x.at') := by rw [Lib.cell_of_heap hN]; rfl
        have y4 : ws.cell? ⟨wr.heap.size, 4, none⟩ = some (.string x.nm) := by rw [Lib.cell_of_heap hN]; rfl
        have y5 : ws.cell? ⟨wr.heap.size, 5, none⟩ = some (.string x.tx) := by rw [Lib.cell_of_heap hN]; rfl
        have y6 : ws.cell? ⟨wr.heap.size, 6, none⟩ = some (.slice aa x.l.length ac) := by rw [Lib.cell_of_heap hN]; rfl
        have HNB : Hid (wr.heap.size < ws.heap.size ∧ wr.heap.size ∉ tb :: mb3 :: allB L3) := hid ⟨lt_of_block hN, fun z => by
          rcases List.mem_cons.1 z with z | z
          · have := lt_of_block t3.top; omega
          · have := t3.graph.lt _ z; omega⟩
        have HV := hid hv
        clear hcc k0 k1 k2 k3 k4 k5 k6 hB t3 hA hN HTR hv
        go_wp2_with fail
        refine (next_any' T3).mono ?_
        rintro e w4 ⟨rfl, hw4⟩
        rw [hw4]
        clear hw4
        have DA := hid (does_any T3 HGD x HFO (hid (fun w' hw' => by
          have hsz := HBS.out.size
          have := HBS.out.trans (hw'.below (B := w.heap.size) (fun b hb => by rw [List.mem_singleton.1 hb]; exact T3.out.tbB) hsz)
          exact HI.out.below this)) (hid (HT.out.below HBS.out)))
        have DG := hid (T.do_good HGD.out x.op)
        have DX := hid (do_next f nx x.op)
        obtain ⟨⟨⟨f', nx'⟩, id, e0⟩, HR⟩ : ∃ r, Hid (doF f nx x.op = r) := ⟨_, hid rfl⟩
        rw [HR.out] at DA DG DX
        dsimp only at DA DG DX
        unfold opV at DA
        rw [HV.out] at DA
        go_wp2_with fail
        refine DA.out.mono ?_
        rintro e w5 ⟨rfl, hL5⟩
        have hbk : w5.heap[wr.heap.size]? = ws.heap[wr.heap.size]? := hL5.turns.block _ HNB.out.1 HNB.out.2
        have z0 : w5.cell? ⟨wr.heap.size, 0, none⟩ = some (.int .i64 x.k) := (World.cell?_of_block hbk).trans y0
        have z6 : w5.cell? ⟨wr.heap.size, 6, none⟩ = some (.slice aa x.l.length ac) := (World.cell?_of_block hbk).trans y6
        have hB5 : Below w.heap.size w w5 := HBS.out.trans (hL5.turns.below (fun b hb => by
          rcases List.mem_cons.1 hb with z | z
          · rw [z]; exact T3.out.tbB
          · exact T3.out.graph.ge b z) HBS.out.size)
        have HB5 := hid hB5
        obtain ⟨⟨mb5, L5, ht5, _⟩, _⟩ := hL5
        have T5 := hid ht5
        clear hbk hB5 ht5 DA y0 y1 y2 y3 y4 y5 y6 c0 c1 c2 c3 c4 c5 c6 hws T3
        have hn2 := DG.out.nx2
        have hn1 := HGD.out.nx1
        by_cases he : e0 = 0
        · subst he
          by_cases hk : x.k = 0 ∨ x.k = 1
          · obtain ⟨r1, r2⟩ := DX.out.1 ⟨rfl, hk⟩
            have r2' : nx' = nx + (x.l.length : Int) := by
              rw [r2]
              simp [OV.op]
            subst r1
            clear r2
            have hne : (nx' != id + (x.l.length : Int)) = false := by rw [r2']; simp
            have hii : (id != id) = false := by simp
            have hbd : id + (x.l.length : Int) ≤ 9223372036854775807 := by omega
            clear r2'
            by_cases hk0 : x.k = 0
            · rw [hk0] at z0
              go_wp2_with fail
              refine (next_any' T5).mono ?_
              rintro e w6 ⟨rfl, hw6⟩
              rw [hw6]
              clear hw6
              go_wp2_with fail
              refine (order_any T5 (hid DG.out.fine) (T.Good.wfr DG.out) HB5.out.size).mono ?_
              rintro e w7 ⟨V7, rfl, hr7, hb7⟩
              rw [T.Good.all DG.out] at hr7
              obtain ⟨a7, c7, rfl, hl7, hc7⟩ := int_cells (IntRow.ints hr7 (by have := DG.out.len; omega))
              have HC7 := hid hc7
              have HB7 := hid (HB5.out.trans (hb7.mono HB5.out.size))
              have T7 := hid (T5.out.below hb7)
              clear hr7 hb7 hc7 T5
              go_wp2_with fail
              go_loopw [66] (fun v66 X => ∃ j : Nat, v66 = .int .i64 (j : Int) ∧ j ≤ (ids f').length ∧ X = w7) (fun v66 _ => (ids f').length - (intOf v66).toNat)
              case atStart => exact ⟨0, rfl, by omega, rfl⟩
              case round =>
                obtain ⟨j, rfl, hj, rfl⟩ := hrel
                by_cases hj1 : j < (ids f').length
                · have hj1' : (j : Int) < ((ids f').length : Int) := by omega
                  obtain ⟨g7, o7, rfl, _, hcc7⟩ := HC7.out (by intro z; rw [z] at hj1; simp at hj1)
                  have d7 := hcc7 j hj1
                  have hlt := DG.out.lt _ (List.getElem_mem hj1)
                  generalize (ids f')[j] = y at d7 hlt
                  obtain ⟨hl1, hl2⟩ := hlt
                  have hl3 : ¬ nx' ≤ y := by omega
                  have hl4 : ¬ y < 1 := by omega
                  clear hcc7
                  go_wp2_with fail
                  refine (next_any' T7).mono ?_
                  rintro e w8 ⟨rfl, hw8⟩
                  rw [hw8]
                  clear hw8
                  go_wp2
                  go_roundw
                  case rel => exact ⟨j + 1, by go_num, by omega, trivial⟩
                  case measure => (simp [intOf]; try omega)
                · obtain rfl : j = (ids f').length := by omega
                  have hj1' : ¬ ((ids f').length : Int) < ((ids f').length : Int) := by omega
                  go_wp2
                  go_roundw
                  case rel => exact ⟨q + 1, f', nx', by go_num, by omega, DG, hid ⟨mb5, L5, T7.out⟩, HB7⟩
                  case measure => (simp [intOf]; try omega)
            · have hk1 : x.k = 1 := hk.resolve_left hk0
              rw [hk1] at z0
              go_wp2_with fail
              refine (next_any' T5).mono ?_
              rintro e w6 ⟨rfl, hw6⟩
              rw [hw6]
              clear hw6
              go_wp2_with fail
              refine (order_any T5 (hid DG.out.fine) (T.Good.wfr DG.out) HB5.out.size).mono ?_
              rintro e w7 ⟨V7, rfl, hr7, hb7⟩
              rw [T.Good.all DG.out] at hr7
              obtain ⟨a7, c7, rfl, hl7, hc7⟩ := int_cells (IntRow.ints hr7 (by have := DG.out.len; omega))
              have HC7 := hid hc7
              have HB7 := hid (HB5.out.trans (hb7.mono HB5.out.size))
              have T7 := hid (T5.out.below hb7)
              clear hr7 hb7 hc7 T5
              go_wp2_with fail
              go_loopw [66] (fun v66 X => ∃ j : Nat, v66 = .int .i64 (j : Int) ∧ j ≤ (ids f').length ∧ X = w7) (fun v66 _ => (ids f').length - (intOf v66).toNat)
              case atStart => exact ⟨0, rfl, by omega, rfl⟩
              case round =>
                obtain ⟨j, rfl, hj, rfl⟩ := hrel
                by_cases hj1 : j < (ids f').length
                · have hj1' : (j : Int) < ((ids f').length : Int) := by omega
                  obtain ⟨g7, o7, rfl, _, hcc7⟩ := HC7.out (by intro z; rw [z] at hj1; simp at hj1)
                  have d7 := hcc7 j hj1
                  have hlt := DG.out.lt _ (List.getElem_mem hj1)
                  generalize (ids f')[j] = y at d7 hlt
                  obtain ⟨hl1, hl2⟩ := hlt
                  have hl3 : ¬ nx' ≤ y := by omega
                  have hl4 : ¬ y < 1 := by omega
                  clear hcc7
                  go_wp2_with fail
                  refine (next_any' T7).mono ?_
                  rintro e w8 ⟨rfl, hw8⟩
                  rw [hw8]
                  clear hw8
                  go_wp2
                  go_roundw
                  case rel => exact ⟨j + 1, by go_num, by omega, trivial⟩
                  case measure => (simp [intOf]; try omega)
                · obtain rfl : j = (ids f').length := by omega
                  have hj1' : ¬ ((ids f').length : Int) < ((ids f').length : Int) := by omega
                  go_wp2
                  go_roundw
                  case rel => exact ⟨q + 1, f', nx', by go_num, by omega, DG, hid ⟨mb5, L5, T7.out⟩, HB7⟩
                  case measure => (simp [intOf]; try omega)
          · have r2 := DX.out.2 (fun z => hk z.2)
            have hk0 : (x.k == 0) = false := by simpa using fun z => hk (Or.inl z)
            have hk1 : (x.k == 1) = false := by simpa using fun z => hk (Or.inr z)
            subst r2
            have hne : (nx' != nx' + 0) = false := by simp
            go_wp2_with fail
            refine (next_any' T5).mono ?_
            rintro e w6 ⟨rfl, hw6⟩
            rw [hw6]
            clear hw6
            go_wp2_with fail
            refine (order_any T5 (hid DG.out.fine) (T.Good.wfr DG.out) HB5.out.size).mono ?_
            rintro e w7 ⟨V7, rfl, hr7, hb7⟩
            rw [T.Good.all DG.out] at hr7
            obtain ⟨a7, c7, rfl, hl7, hc7⟩ := int_cells (IntRow.ints hr7 (by have := DG.out.len; omega))
            have HC7 := hid hc7
            have HB7 := hid (HB5.out.trans (hb7.mono HB5.out.size))
            have T7 := hid (T5.out.below hb7)
            clear hr7 hb7 hc7 T5
            go_wp2_with fail
            go_loopw [66] (fun v66 X => ∃ j : Nat, v66 = .int .i64 (j : Int) ∧ j ≤ (ids f').length ∧ X = w7) (fun v66 _ => (ids f').length - (intOf v66).toNat)
            case atStart => exact ⟨0, rfl, by omega, rfl⟩
            case round =>
              obtain ⟨j, rfl, hj, rfl⟩ := hrel
              by_cases hj1 : j < (ids f').length
              · have hj1' : (j : Int) < ((ids f').length : Int) := by omega
                obtain ⟨g7, o7, rfl, _, hcc7⟩ := HC7.out (by intro z; rw [z] at hj1; simp at hj1)
                have d7 := hcc7 j hj1
                have hlt := DG.out.lt _ (List.getElem_mem hj1)
                generalize (ids f')[j] = y at d7 hlt
                obtain ⟨hl1, hl2⟩ := hlt
                have hl3 : ¬ nx' ≤ y := by omega
                have hl4 : ¬ y < 1 := by omega
                clear hcc7
                go_wp2_with fail
                refine (next_any' T7).mono ?_
                rintro e w8 ⟨rfl, hw8⟩
                rw [hw8]
                clear hw8
                go_wp2
                go_roundw
                case rel => exact ⟨j + 1, by go_num, by omega, trivial⟩
                case measure => (simp [intOf]; try omega)
              · obtain rfl : j = (ids f').length := by omega
                have hj1' : ¬ ((ids f').length : Int) < ((ids f').length : Int) := by omega
                go_wp2
                go_roundw
                case rel => exact ⟨q + 1, f', nx', by go_num, by omega, DG, hid ⟨mb5, L5, T7.out⟩, HB7⟩
                case measure => (simp [intOf]; try omega)
        · have r2 := DX.out.2 (fun z => he z.1)
          have he' : (e0 == 0) = false := by simpa using he
          subst r2
          have hne : (nx' != nx' + 0) = false := by simp
          go_wp2_with fail
          refine (next_any' T5).mono ?_
          rintro e w6 ⟨rfl, hw6⟩
          rw [hw6]
          clear hw6
          go_wp2_with fail
          refine (order_any T5 (hid DG.out.fine) (T.Good.wfr DG.out) HB5.out.size).mono ?_
          rintro e w7 ⟨V7, rfl, hr7, hb7⟩
          rw [T.Good.all DG.out] at hr7
          obtain ⟨a7, c7, rfl, hl7, hc7⟩ := int_cells (IntRow.ints hr7 (by have := DG.out.len; omega))
          have HC7 := hid hc7
          have HB7 := hid (HB5.out.trans (hb7.mono HB5.out.size))
          have T7 := hid (T5.out.below hb7)
          clear hr7 hb7 hc7 T5
          go_wp2_with fail
          go_loopw [66] (fun v66 X => ∃ j : Nat, v66 = .int .i64 (j : Int) ∧ j ≤ (ids f').length ∧ X = w7) (fun v66 _ => (ids f').length - (intOf v66).toNat)
          case atStart => exact ⟨0, rfl, by omega, rfl⟩
          case round =>
            obtain ⟨j, rfl, hj, rfl⟩ := hrel
            by_cases hj1 : j < (ids f').length
            · have hj1' : (j : Int) < ((ids f').length : Int) := by omega
              obtain ⟨g7, o7, rfl, _, hcc7⟩ := HC7.out (by intro z; rw [z] at hj1; simp at hj1)
              have d7 := hcc7 j hj1
              have hlt := DG.out.lt _ (List.getElem_mem hj1)
              generalize (ids f')[j] = y at d7 hlt
              obtain ⟨hl1, hl2⟩ := hlt
              have hl3 : ¬ nx' ≤ y := by omega
              have hl4 : ¬ y < 1 := by omega
              clear hcc7
              go_wp2_with fail
              refine (next_any' T7).mono ?_
              rintro e w8 ⟨rfl, hw8⟩
              rw [hw8]
              clear hw8
              go_wp2
              go_roundw
              case rel => exact ⟨j + 1, by go_num, by omega, trivial⟩
              case measure => (simp [intOf]; try omega)
            · obtain rfl : j = (ids f').length := by omega
              have hj1' : ¬ ((ids f').length : Int) < ((ids f').length : Int) := by omega
              go_wp2
              go_roundw
              case rel => exact ⟨q + 1, f', nx', by go_num, by omega, DG, hid ⟨mb5, L5, T7.out⟩, HB7⟩
              case measure => (simp [intOf]; try omega)
      · obtain rfl : q = l.length := by omega
        have h1' : ¬ (l.length : Int) < (l.length : Int) := by omega
        go_wp2_with fail
        refine (alive_any wr (HT.out.below HG.out)).mono ?_
        rintro e w3 ⟨rfl, hb3⟩
        have HB3 := hid (HG.out.trans (hb3.mono HG.out.size))
        clear hb3
        go_wp2
        go_ret
        exact ⟨rfl, HB3.out⟩
  · go_wp2_with fail
    refine (alive_any w2 (HT.out.below HB2.out)).mono ?_
    rintro e w3 ⟨rfl, hb3⟩
    have HB3 := hid (HB2.out.trans (hb3.mono HB2.out.size))
    clear hb3
    go_wp2
    go_ret
    exact ⟨rfl, HB3.out⟩
end

set_option maxRecDepth 100000 in
theorem contract (H : Type) (enc : TypeId × Value → H) (W : World) (base : Nat) (args : Array Value) (ds gs : List (DataW H)) (before : List MemPlace)
    (hval : ∀ (j : Nat) t v, Tryd.f4.params[j]? = some t → args[j]? = some v → Value.okWide Tryd.prog W .any base t v)
    (hW : DataW.Whole enc Tryd.prog Tryd.f4.params.toList Rows.groveIdsSpec.vars false W args.toList ds gs before) (hL : laidMetH Tryd.prog laidT W)
    (hsz : (DataW.weightsEach Tryd.prog (Tryd.f4.params.toList ++ (OpenSpec.ofChange Rows.groveIdsSpec).bare.plain.varTypes Tryd.prog) (ds ++ gs)).all (· ≤ reachBytes) = true) :
    Calls Tryd.prog 4 args W fun e W' => ∃ v, e = .returned v ∧ Rows.groveIdsSpec.post enc Tryd.prog Tryd.f4 false true false false W args v W' := by
  have hW' := hW
  obtain ⟨p, q, hA0, hV, rfl, hfz, hnd⟩ := hW
  have hA : DataW.TrodAll enc Tryd.prog W 0 (fun _ => true) true Tryd.f4.params.toList args.toList ds p := hA0
  rw [Tryd.params4] at hA hval
  rw [Tryd.params4] at hsz
  obtain ⟨v0, vs0, d0, ds0, p0, q0, hargs, rfl, rfl, h0, r0⟩ := trodAll_cons hA
  obtain ⟨rfl, rfl, rfl⟩ := trodAll_nil r0
  obtain rfl : args = #[v0] := by cases args; simp_all
  obtain ⟨rfl, rfl⟩ := trodVars_none hV
  obtain ⟨l0, i0, f0⟩ := N.open_ops (hval 0 22 v0 rfl rfl) h0 (N.near_of hsz (j := 0) rfl rfl)
  obtain ⟨l0, i0, f0⟩ := N.open_ops (hval 0 22 v0 rfl rfl) h0 (N.near_of hsz (j := 0) rfl rfl)
  have hT := tab_of hL
  clear hA0 hL hsz
  try simp only [List.append_nil] at hW'
  refine (walk v0 l0 (hid i0) (hid f0) hT).mono fun e W' ⟨he, hb⟩ => ?_
  subst he
  exact ⟨_, rfl, _, _, _, _, _, _, hW', trodAll_mk1 (shut_bool Tryd.underlying4 _), (trodAll_cons_mk (again_items (by kernel_rfl) (of_decide_eq_true (by kernel_rfl)) h0 (fun x hx => trod_lt h0 x hx) hb) trodAll_mk0), rfl, hb.frame _, fun h => by cases h⟩

theorem reads (os : Os) {H : Type} (enc : TypeId × Value → H) : ∃ places, DataW.whole enc Tryd.prog ((World.doorLaid Tryd.prog 400 os).forCall (fun _ _ => 0) ⟨#[], #[.slice none 0 0], []⟩).memory Tryd.f4.params.toList Rows.groveIdsSpec.vars false #[Value.slice none 0 0].toList 8 = some ([.nil], [], places) :=
  ⟨[], by kernel_rfl⟩
theorem laid_met (os : Os) (args : Array Value) : laidMet Tryd.prog Rows.groveIdsRow.laid ((World.doorLaid Tryd.prog 400 os).forCall (fun _ _ => 0) ⟨#[], args, []⟩).memory :=
  laidMet_of_run' 8 (by kernel_rfl) (by kernel_rfl)

set_option maxRecDepth 100000 in
theorem lifted (os : Os) (started : os.Started) (H : Type) (enc : TypeId × Value → H) (F : Stop.Interp) :
    ReturnsInHanded {} Tryd.checked os 4 .any ((OpenSpec.ofChange Rows.groveIdsSpec).preRow enc Tryd.prog Tryd.f4 Rows.groveIdsRow.domain false Rows.groveIdsRow.laid) (((OpenSpec.ofChange Rows.groveIdsSpec).at F).post enc Tryd.prog Tryd.f4 false true false false) := by
  obtain ⟨places, hx⟩ := reads os enc
  refine returnsInHanded_of_row (C := Tryd.checked) (s := (OpenSpec.ofChange Rows.groveIdsSpec)) own started (by kernel_rfl) Tryd.func4
    (witness_row_at (enc := enc) (C := Tryd.checked) false (World.doorLaid Tryd.prog 400 os) #[.slice none 0 0] rfl (by kernel_rfl) (by kernel_rfl) (by kernel_rfl)
      (OpenSpec.preRow_of_cond 8 hx (by kernel_rfl) (fun k hk => by cases hk) (by kernel_rfl) (laid_met os _))) ?_
  intro W base args ds gs before hval hW _ hcond hsz hL _ _
  exact contract H enc W base args ds gs before hval hW hL hsz

theorem over : Rows.GroveIdsSaid :=
  OpenClaim.holds_of_cond 4 Tryd.f4 rfl rfl rfl rfl rfl rfl rfl ⟨rfl, rfl, rfl, rfl, rfl⟩ rfl rfl rfl rfl rfl (by kernel_rfl) Tryd.func4 (by kernel_rfl)
    (of_decide_eq_true (by kernel_rfl)) (by unfold Func.isWrapper; first | (rw [if_pos (by decide +kernel)]; kernel_rfl) | (rw [if_neg (by decide +kernel)]; exact ⟨rfl, rfl⟩))
    (fun os started H enc _ F => by rw [OpenClaim.pre_eq_preRow]; exact lifted os started H enc F)
theorem plain (f : FuncId) (fn : Func) (hf : Tryd.pinned.checked.prog.funcNamed Rows.groveIdsRow.func = some f) (hfn : Tryd.pinned.checked.prog.funcs[f]? = some fn) :
    false = Tryd.pinned.checked.prog.looks [] ∧ ∀ (j : Nat) t, fn.params[j]? = some t → Tryd.pinned.checked.prog.wantsStandIn t = false := by
  obtain rfl : f = 4 := Option.some.inj ((show Tryd.prog.funcNamed Rows.groveIdsRow.func = some 4 by kernel_rfl).symm.trans hf) |>.symm
  obtain rfl : fn = Tryd.f4 := (Option.some.inj (Tryd.func4.symm.trans hfn)).symm
  refine ⟨by kernel_rfl, fun j t ht => ?_⟩
  rw [Tryd.params4] at ht
  have hm : t ∈ [22] := by simpa using Array.mem_of_getElem? ht
  have hall : ([22].all fun u => !Tryd.prog.wantsStandIn u) = true := by kernel_rfl
  exact (show Tryd.prog.wantsStandIn t = false by simpa using List.all_eq_true.1 hall t hm)
end GroveIds

theorem groveIds_holds : Rows.GroveIdsCardSaid :=
  Claim7.holds_tied_plain_at .later [] _ _ _ _ GroveIds.over (fun _ h => by cases h) (by kernel_rfl) (fun _ h => by cases h) groveIds_row_tie rfl ⟨rfl, rfl⟩ (by kernel_rfl) rfl GroveIds.plain (by kernel_rfl)
#print axioms groveIds_holds
end Go.Proofs.YtidccohjehegjaaDoor
