/- PROVED: of any script of calls on a tree, GroveShape returns true: what stands in the tree is a document by the document's own Check, one item and one id for each node; only the root has no parent; each other node stands once among its parent's kids; the script reads afterwards as it read before. Its conditions: the table of glyph lies as the program's text lays it. -/
import Derived.Test.YtidccohjehegjaaDoorNShapeK
namespace Go.Proofs.YtidccohjehegjaaDoor
open Go.RowKit Go.Shelf
open Go.ChangeShapes Go.WideShapes Go.ChangeAt
namespace GroveShape
section
open N T
set_option maxRecDepth 100000 in
set_option maxHeartbeats 8000000 in
theorem walk {w : World} (V : Value) (l : List OV) (I : Hid (OpsIn V l w)) (HFF : Hid (∀ o ∈ l, FitO o)) (ht : Tab w) : Calls Tryd.prog 3 #[V] w fun e w' => e = .returned (.bool true) ∧ Below w.heap.size w w' := by
  have HT := hid ht
  clear ht
  obtain ⟨ao, cap, rfl, hl, hc⟩ := I.out.1
  have HC := hid hc
  clear hc
  go_enter Tryd.func3, Tryd.ntmps3
  go_wp2_with fail
  refine (new_any w).mono ?_
  rintro e w1 ⟨tb, mb, L, rfl, ht1, hb1⟩
  have T1 := hid ht1
  have HB1 := hid hb1
  clear ht1 hb1
  go_wp2_with fail
  refine (few_any _ l (hid (I.out.below HB1.out))).mono ?_
  rintro e w2 ⟨v, rfl, hv, hb2⟩
  have HB2 := hid (HB1.out.trans (hb2.mono HB1.out.size))
  have T2 := hid (T1.out.below hb2)
  clear hb2 T1
  rcases hv with rfl | rfl
  · go_wp2_with fail
    have HTR2 : Hid (∃ mb L, TreeIn w.heap.size tb mb none 1 L w2) := hid ⟨mb, L, T2.out⟩
    clear T2
    go_loopw [34] (fun v28 X => ∃ (q : Nat) (f : F) (nx : Int), v28 = .int .i64 (q : Int) ∧ q ≤ l.length ∧ Hid (T.Good f nx) ∧ Hid (∃ mb L, TreeIn w.heap.size tb mb f nx L X) ∧ Hid (Below w.heap.size w X)) (fun v28 _ => l.length - (intOf v28).toNat)
    case atStart => exact ⟨0, none, 1, rfl, by omega, hid T.Good.new, HTR2, HB2⟩
    case round =>
      obtain ⟨q, f, nx, rfl, hq, HGD, HTR, HG⟩ := hrel
      clear HTR2
      by_cases h1 : q < l.length
      · have h1' : (q : Int) < (l.length : Int) := by omega
        obtain ⟨g, o, rfl, hg, hcc⟩ := HC.out (by rintro rfl; simp at h1)
        obtain ⟨k0, k1, k2, k3, k4, k5, k6⟩ := hcc q h1
        have hB := HG.out
        have c0 := (hB.cell (p := ⟨g, o + q * 7, none⟩) hg).trans k0
        have c1 := (hB.cell (p := ⟨g, o + q * 7 + 1, none⟩) hg).trans k1
        have c2 := (hB.cell (p := ⟨g, o + q * 7 + 2, none⟩) hg).trans k2
        have c3 := (hB.cell (p := ⟨g, o + q * 7 + 3, none⟩) hg).trans k3
        have c4 := (hB.cell (p := ⟨g, o + q * 7 + 4, none⟩) hg).trans k4
        have c5 := (hB.cell (p := ⟨g, o + q * 7 + 5, none⟩) hg).trans k5
        have c6 := (hB.cell (p := ⟨g, o + q * 7 + 6, none⟩) hg).trans k6
        have HI := hid (I.out.2 l[q] (List.getElem_mem h1))
        have HFO := hid (HFF.out l[q] (List.getElem_mem h1))
        obtain ⟨aa, ac, hv, hlx, _⟩ := HI.out.1
        generalize l[q] = x at *
        obtain ⟨mb3, L3, t3⟩ := HTR.out
        have hA := (Below.refl wr.heap.size wr).alloc (Nat.le_refl _) (.cells (cellsO x) 29)
        have hN := heap_alloc_new wr (.cells (cellsO x) 29)
        obtain ⟨ws, hws⟩ : ∃ ws, wr.alloc (.cells (cellsO x) 29) = ws := ⟨_, rfl⟩
        rw [hws] at hA hN
        unfold cellsO at hws hN
        rw [hv] at c6 hws hN
        have T3 := hid (t3.below hA)
        have HBS := hid (hB.trans (hA.mono hB.size))
        have y0 : ws.cell? ⟨wr.heap.size, 0, none⟩ = some (.int .i64 x.k) := by rw [Lib.cell_of_heap hN]; rfl
        have y1 : ws.cell? ⟨wr.heap.size, 1, none⟩ = some (.int .i64 x.id) := by rw [Lib.cell_of_heap hN]; rfl
        have y2 : ws.cell? ⟨wr.heap.size, 2, none⟩ = some (.int .i64 x.to') := by rw [Lib.cell_of_heap hN]; rfl
        have y3 : ws.cell? ⟨wr.heap.size, 3, none⟩ = some (.int .i64 x.at') := by rw [Lib.cell_of_heap hN]; rfl
        have y4 : ws.cell? ⟨wr.heap.size, 4, none⟩ = some (.string x.nm) := by rw [Lib.cell_of_heap hN]; rfl
        have y5 : ws.cell? ⟨wr.heap.size, 5, none⟩ = some (.string x.tx) := by rw [Lib.cell_of_heap hN]; rfl
        have y6 : ws.cell? ⟨wr.heap.size, 6, none⟩ = some (.slice aa x.l.length ac) := by rw [Lib.cell_of_heap hN]; rfl
        have HV := hid hv
        clear hcc k0 k1 k2 k3 k4 k5 k6 hB t3 hA hN HTR hv
        have DA := hid (does_any T3 HGD x HFO (hid (fun w' hw' => by
          have hsz := HBS.out.size
          have := HBS.out.trans (hw'.below (B := w.heap.size) (fun b hb => by rw [List.mem_singleton.1 hb]; exact T3.out.tbB) hsz)
          exact HI.out.below this)) (hid (HT.out.below HBS.out)))
        have DG := hid (T.do_good HGD.out x.op)
        obtain ⟨⟨⟨f', nx'⟩, id, e0⟩, HR⟩ : ∃ r, Hid (doF f nx x.op = r) := ⟨_, hid rfl⟩
        rw [HR.out] at DA DG
        dsimp only at DA DG
        unfold opV at DA
        rw [HV.out] at DA
        go_wp2_with fail
        refine DA.out.mono ?_
        rintro e w5 ⟨rfl, hL5⟩
        have hB5 : Below w.heap.size w w5 := HBS.out.trans (hL5.turns.below (fun b hb => by
          rcases List.mem_cons.1 hb with z | z
          · rw [z]; exact T3.out.tbB
          · exact T3.out.graph.ge b z) HBS.out.size)
        have HB5 := hid hB5
        obtain ⟨⟨mb5, L5, ht5, _⟩, _⟩ := hL5
        have T5 := hid ht5
        clear hB5 ht5 DA y0 y1 y2 y3 y4 y5 y6 c0 c1 c2 c3 c4 c5 c6 hws T3
        go_wp2
        go_roundw
        case rel => exact ⟨q + 1, f', nx', by go_num, by omega, DG, hid ⟨mb5, L5, T5.out⟩, HB5⟩
        case measure => (simp [intOf]; try omega)
      · obtain rfl : q = l.length := by omega
        have h1' : ¬ (l.length : Int) < (l.length : Int) := by omega
        obtain ⟨mb3, L3, t3⟩ := HTR.out
        have T3 := hid t3
        clear t3 HTR
        have RT := hid (root_any T3)
        go_wp2_with fail
        refine RT.out.mono ?_
        rintro r w5 ⟨rfl, hw5⟩
        rw [hw5]
        clear hw5
        go_wp2_with fail
        refine (items_any T3 (hid HGD.out.fine) (hid (fun e2 he2 => by have := (HGD.out.attrs e2 he2).2; omega)) (rootF f) (good_wfr HGD.out)).mono ?_
        rintro r w6 ⟨V6, l6, rfl, hr6, hm6, hb6⟩
        obtain ⟨ia, ic, rfl⟩ := slice_of hr6.1
        rw [good_all HGD.out] at hm6
        have hlen6 : l6.length = (ids f).length := by
          have := congrArg List.length hm6
          rw [List.length_map, List.length_map] at this
          rw [this, ← rows_ids f 0, List.length_map]
        have hup6 : l6.length ≤ 1000 := by rw [hlen6]; exact HGD.out.len
        have I6 := hid (items_in hr6)
        have F6 : Hid (∀ x ∈ l6, FitU x.1) := hid (fun x hx => by
          have y1 := List.mem_map_of_mem (f := fun z : IV => z.1) hx
          rw [hm6] at y1
          obtain ⟨r, hr, he⟩ := List.mem_map.1 y1
          obtain ⟨z1, z2, z3⟩ := rows_fit f 0 HGD.out.ok (by omega) r hr
          rw [← he]
          exact fit_parts z1 z2 z3)
        have C6 : Hid (l6.length ≠ 0 → P.checkP (l6.map (·.1)) = (0, 0)) := hid (fun hz => by
          rw [hm6]
          have hrl : (rows f 0).length ≤ 1000 := by
            have : (rows f 0).length = (ids f).length := by rw [← rows_ids f 0, List.length_map]
            rw [this]; exact HGD.out.len
          have hok := HGD.out.ok
          rcases HGD.out.shape with e | ⟨i, x, k, e, hk⟩
          · rw [hlen6, e] at hz; simp [ids] at hz
          · rw [e] at hok hrl ⊢
            exact tree_doc hok hk hrl)
        have HB6 := hid (HG.out.trans (hb6.mono HG.out.size))
        have T6 := hid (T3.out.below hb6)
        have HL6 := hid hlen6
        clear hr6 hm6 hb6 hlen6 RT T3
        go_upto_if 48 with fail
        go_cut [] from 46 (fun wx => Hid (Below w6.heap.size w6 wx))
        case first =>
          by_cases hz : l6.length = 0
          · have hz' : ¬ (0 : Int) < (l6.length : Int) := by omega
            clear hz
            go_wp2
            go_meet
            exact hid (Below.refl _ _)
          · have hz' : (0 : Int) < (l6.length : Int) := by omega
            have CH := hid (rcheck_any I6 F6 0 0 (hid (C6.out hz)))
            clear hz
            go_wp2_with fail
            refine CH.out.mono ?_
            rintro r w7 ⟨rfl, hb7⟩
            have HB7 := hid hb7
            clear hb7
            go_wp2
            go_meet
            exact HB7
        case rest =>
          have HBc := hid (HB6.out.trans (hcut.out.mono HB6.out.size))
          have T7 := hid (T6.out.below hcut.out)
          have hmany : L3.length = l6.length := by rw [HL6.out]; exact T7.out.many
          have LN := hid (len_any T7)
          rw [hmany] at LN
          have hnn : ((l6.length : Int) != (l6.length : Int)) = false := by simp
          clear T6 hcut I6 F6 C6 HB6
          go_wp2_with fail
          refine LN.out.mono ?_
          rintro r w8 ⟨rfl, hw8⟩
          rw [hw8]
          clear hw8
          go_wp2_with fail
          refine (order_any T7 (hid HGD.out.fine) (good_wfr HGD.out) HBc.out.size).mono ?_
          rintro r w9 ⟨V9, rfl, hr9, hb9⟩
          rw [good_all HGD.out] at hr9
          obtain ⟨a9, c9, rfl, _, _⟩ := int_cells (IntRow.ints hr9 (by have := HGD.out.len; omega))
          rw [← HL6.out]
          have HB9 := hid (HBc.out.trans (hb9.mono HBc.out.size))
          have T9 := hid (T7.out.below hb9)
          have LN9 := hid (len_any T9)
          rw [hmany] at LN9
          clear hr9 hb9 T7 LN HBc
          go_wp2_with fail
          refine LN9.out.mono ?_
          rintro r w8 ⟨rfl, hw8⟩
          rw [hw8]
          clear hw8 LN9
          go_wp2_with fail
          refine (order_any T9 (hid HGD.out.fine) (good_wfr HGD.out) HB9.out.size).mono ?_
          rintro r w10 ⟨V10, rfl, hr10, hb10⟩
          rw [good_all HGD.out, ← ents_ids f 0] at hr10
          obtain ⟨es, HES⟩ : ∃ es, Hid (T.ents f 0 = es) := ⟨_, hid rfl⟩
          rw [HES.out] at hr10
          have hel : es.length = l6.length := by rw [HL6.out, ← HES.out, ← ents_ids f 0, List.length_map]
          obtain ⟨a10, c10, rfl, hl10, hc10⟩ := int_cells (IntRow.ints hr10 (by rw [List.length_map, hel]; omega))
          have HC10 := hid hc10
          have HB10 := hid (HB9.out.trans (hb10.mono HB9.out.size))
          have T10 := hid (T9.out.below hb10)
          rw [List.length_map, hel]
          have HEL := hid hel
          clear hr10 hb10 hc10 T9 HB9 hel hl10
          go_wp2_with fail
          go_loopw [72] (fun v72 X => ∃ j : Nat, v72 = .int .i64 (j : Int) ∧ j ≤ l6.length ∧ Hid (Below w10.heap.size w10 X)) (fun v72 _ => l6.length - (intOf v72).toNat)
          case atStart => exact ⟨0, rfl, by omega, hid (Below.refl _ _)⟩
          case round =>
            obtain ⟨j, rfl, hj, HX⟩ := hrel
            by_cases hj1 : j < l6.length
            · have hj1' : (j : Int) < (l6.length : Int) := by omega
              have hj2 : j < es.length := by rw [HEL.out]; exact hj1
              obtain ⟨g7, o7, rfl, hg7, hcc7⟩ := HC10.out (by intro z; rw [List.map_eq_nil_iff] at z; rw [z] at hj2; simp at hj2)
              have d7 := (HX.out.cell (p := ⟨g7, o7 + j, none⟩) hg7).trans (hcc7 j (by rw [List.length_map]; exact hj2))
              rw [List.getElem_map] at d7
              have hmem : es[j] ∈ T.ents f 0 := by rw [HES.out]; exact List.getElem_mem hj2
              generalize es[j] = e at d7 hmem
              have T8 := hid (T10.out.below HX.out)
              have hm := T8.out.ent e hmem
              have hids : e.id ∈ ids f := by rw [← ents_ids f 0]; exact List.mem_map_of_mem hmem
              have hwf := HGD.out.fine.wf _ hids
              have hlk := look_mem T8.out.graph.map.nd (List.mem_map.2 ⟨_, hm, rfl⟩)
              dsimp only at hlk
              have HM := hid hm
              have HLK := hid hlk
              have HAT := hid (HGD.out.attrs e hmem)
              have HMEM := hid hmem
              clear hcc7 hm hlk hids hmem hj2
              go_wp2_with fail
              refine (get_ok T8 e.id hwf e _ HM HLK (hid (by have := HAT.out.2; omega))).mono ?_
              rintro r w11 ⟨V11, rfl, hv11, hb11⟩
              obtain ⟨va, vc, rfl⟩ := slice_of hv11
              have hA11 := (Below.refl w11.heap.size w11).alloc (Nat.le_refl _) (.cells #[.int .i64 e.id, .int .i64 e.par, .int .i64 e.x.kind, .int .i64 (e.kids.length : Int), .string e.x.name, .string e.x.text, .slice va e.x.attrs.length vc] 40)
              have hN11 := heap_alloc_new w11 (.cells #[.int .i64 e.id, .int .i64 e.par, .int .i64 e.x.kind, .int .i64 (e.kids.length : Int), .string e.x.name, .string e.x.text, .slice va e.x.attrs.length vc] 40)
              obtain ⟨w12, hw12⟩ : ∃ w12, w11.alloc (.cells #[.int .i64 e.id, .int .i64 e.par, .int .i64 e.x.kind, .int .i64 (e.kids.length : Int), .string e.x.name, .string e.x.text, .slice va e.x.attrs.length vc] 40) = w12 := ⟨_, rfl⟩
              rw [hw12] at hA11 hN11
              have T12 := hid ((T8.out.below hb11).below hA11)
              have HB12 := hid ((HX.out.trans (hb11.mono HX.out.size)).trans (hA11.mono (Nat.le_trans HX.out.size hb11.size)))
              have z1 : w12.cell? ⟨w11.heap.size, 1, none⟩ = some (.int .i64 e.par) := by rw [Lib.cell_of_heap hN11]; rfl
              have hlt12 := lt_of_block hN11
              obtain ⟨K, hK1, hwp, hKK, GP⟩ := get_par T12 HGD e HMEM.out
              have HKK := hid hKK
              have HGP := hid GP
              have HN12 := hid hN11
              clear hv11 hb11 hA11 hN11 T8 d7 hKK GP HAT HLK HM
              go_wp2_with fail
              refine HGP.out.mono ?_
              rintro r w13 ⟨i0, p0, k0, nm, tx, aa, n, ac, b, rfl, hb13⟩
              have hA13 := (Below.refl w13.heap.size w13).alloc (Nat.le_refl _) (.cells #[.int .i64 i0, .int .i64 p0, .int .i64 k0, .int .i64 (K.length : Int), .string nm, .string tx, .slice aa n ac] 40)
              have hN13 := heap_alloc_new w13 (.cells #[.int .i64 i0, .int .i64 p0, .int .i64 k0, .int .i64 (K.length : Int), .string nm, .string tx, .slice aa n ac] 40)
              obtain ⟨w14, hw14⟩ : ∃ w14, w13.alloc (.cells #[.int .i64 i0, .int .i64 p0, .int .i64 k0, .int .i64 (K.length : Int), .string nm, .string tx, .slice aa n ac] 40) = w14 := ⟨_, rfl⟩
              rw [hw14] at hA13 hN13
              have hS12 : w12.heap.size ≤ w14.heap.size := Nat.le_trans hb13.size hA13.size
              have h1214 : Below w12.heap.size w12 w14 := hb13.trans (hA13.mono hb13.size)
              have T14 := hid (T12.out.below h1214)
              have HB14 := hid (HB12.out.trans (h1214.mono HB12.out.size))
              have y1 : w14.cell? ⟨w11.heap.size, 1, none⟩ = some (.int .i64 e.par) := (World.cell?_of_block (h1214.block _ hlt12)).trans z1
              have y3 : w14.cell? ⟨w13.heap.size, 3, none⟩ = some (.int .i64 (K.length : Int)) := by rw [Lib.cell_of_heap hN13]; rfl
              have hlt14 : w11.heap.size < w14.heap.size := Nat.lt_of_lt_of_le hlt12 hS12
              have HY1 := hid y1
              clear hb13 hA13 hN13 h1214 hS12 HGP T12 HB12 HN12 z1 y1 hlt12
              go_wp2_with fail
              go_loopw [13, 91] (fun v13 v91 X => ∃ k : Nat, v13 = .int .i64 (((K.take k).count e.id : Nat) : Int) ∧ v91 = .int .i64 (k : Int) ∧ k ≤ K.length ∧ Hid (Below w14.heap.size w14 X)) (fun _ v91 _ => K.length - (intOf v91).toNat)
              case atStart => exact ⟨0, by simp, rfl, by omega, hid (Below.refl _ _)⟩
              case round =>
                obtain ⟨k, rfl, rfl, hk, HY⟩ := hrel
                have hcl : (K.take k).count e.id ≤ 1000 := Nat.le_trans List.count_le_length (by rw [List.length_take]; omega)
                by_cases hk1 : k < K.length
                · have hk1' : (k : Int) < (K.length : Int) := by omega
                  have p1 := (HY.out.cell (p := ⟨w11.heap.size, 1, none⟩) hlt14).trans HY1.out
                  have hct := count_take K e.id k hk1
                  have T15 := hid (T14.out.below HY.out)
                  have KD : Hid (Calls Tryd.prog 16 #[.pointer (some ⟨tb, 0, none⟩), .int .i64 e.par, .int .i64 (k : Int)] wr fun r w' => r = .returned (.tuple #[.int .i64 K[k], .bool true]) ∧ w' = wr) := by
                    rcases HKK.out with ⟨_, _, q⟩ | ⟨_, _, _, ep, s, m1, m2, m3⟩
                    · rw [q] at hk1; simp at hk1
                    · subst m3
                      exact hid (kid_ok T15 e.par k hwp ep s (hid m1) (hid m2) hk1)
                  generalize K[k] = y at hct KD
                  have HCT := hid hct
                  generalize (K.take k).count e.id = c at hcl HCT
                  clear hct
                  by_cases hy : y = e.id
                  · have hy' : (y == e.id) = true := by simpa using hy
                    have HY2 := hid hy
                    clear hy
                    go_wp2_with fail
                    refine KD.out.mono ?_
                    rintro r w15 ⟨rfl, hw15⟩
                    rw [hw15]
                    clear hw15
                    go_wp2
                    go_roundw
                    case rel => exact ⟨k + 1, by rw [HCT.out, if_pos HY2.out]; go_num, by go_num, by omega, HY⟩
                    case measure => (simp [intOf]; try omega)
                  · have hy' : (y == e.id) = false := by simpa using hy
                    have HY2 := hid hy
                    clear hy
                    go_wp2_with fail
                    refine KD.out.mono ?_
                    rintro r w15 ⟨rfl, hw15⟩
                    rw [hw15]
                    clear hw15
                    go_wp2
                    go_roundw
                    case rel => exact ⟨k + 1, by rw [HCT.out, if_neg HY2.out]; rfl, by go_num, by omega, HY⟩
                    case measure => (simp [intOf]; try omega)
                · obtain rfl : k = K.length := by omega
                  have hk1' : ¬ (K.length : Int) < (K.length : Int) := by omega
                  rw [List.take_length] at hcl ⊢
                  have p1 : ∀ m, (wr.drewN m).cell? ⟨w11.heap.size, 1, none⟩ = some (.int .i64 e.par) := fun m => (HY.out.cell (p := ⟨w11.heap.size, 1, none⟩) hlt14).trans HY1.out
                  have RT := hid (fun m => root_any (w := wr.drewN m) (hid (T14.out.below (below_drewN HY.out m))))
                  have HB15 := hid (HB14.out.trans (HY.out.mono HB14.out.size))
                  rcases HKK.out with ⟨v1, v2, v3⟩ | ⟨v1, v2, v3, _⟩
                  · have b1 : (e.par == 0) = true := by simpa using v1
                    have b2 : (e.id == rootF f) = true := by simpa using v2
                    have b3 : (e.par != 0) = false := by simpa using v1
                    clear v1 v2 v3 T14 HB14
                    go_wp2
                    go_quiet (first | (go_at_call 11; refine Calls.quiet_of_same (RT.out _)))
                    go_wp2
                    go_roundw
                    case rel => exact ⟨j + 1, by go_num, by omega, hid (below_drewN HB15.out _)⟩
                    case measure => (simp [intOf]; try omega)
                  · have b1 : (e.par == 0) = false := by simpa using v1
                    have b2 : (e.id == rootF f) = false := by simpa using v2
                    have b3 : (e.par != 0) = true := by simpa using v1
                    rw [v3]
                    have b4 : (((1 : Nat) : Int) != 1) = false := by decide
                    clear v1 v2 v3 T14 HB14 hcl
                    go_wp2
                    go_quiet (first | (go_at_call 11; refine Calls.quiet_of_same (RT.out _)))
                    go_wp2
                    go_roundw
                    case rel => exact ⟨j + 1, by go_num, by omega, hid (below_drewN HB15.out _)⟩
                    case measure => (simp [intOf]; try omega)
            · obtain rfl : j = l6.length := by omega
              have hj1' : ¬ (l6.length : Int) < (l6.length : Int) := by omega
              have HB13 := hid (HB10.out.trans (HX.out.mono HB10.out.size))
              go_wp2_with fail
              refine (alive_any wr (HT.out.below HB13.out)).mono ?_
              rintro r w14 ⟨rfl, hb14⟩
              have HB14 := hid (HB13.out.trans (hb14.mono HB13.out.size))
              clear hb14
              go_wp2
              go_ret
              exact ⟨rfl, HB14.out⟩
  · go_wp2_with fail
    refine (alive_any w2 (HT.out.below HB2.out)).mono ?_
    rintro e w3 ⟨rfl, hb3⟩
    have HB3 := hid (HB2.out.trans (hb3.mono HB2.out.size))
    clear hb3
    go_wp2
    go_ret
    exact ⟨rfl, HB3.out⟩
end

set_option maxRecDepth 100000 in
theorem contract (H : Type) (enc : TypeId × Value → H) (W : World) (base : Nat) (args : Array Value) (ds gs : List (DataW H)) (before : List MemPlace)
    (hval : ∀ (j : Nat) t v, Tryd.f3.params[j]? = some t → args[j]? = some v → Value.okWide Tryd.prog W .any base t v)
    (hW : DataW.Whole enc Tryd.prog Tryd.f3.params.toList Rows.groveShapeSpec.vars false W args.toList ds gs before) (hL : laidMetH Tryd.prog laidT W)
    (hsz : (DataW.weightsEach Tryd.prog (Tryd.f3.params.toList ++ (OpenSpec.ofChange Rows.groveShapeSpec).bare.plain.varTypes Tryd.prog) (ds ++ gs)).all (· ≤ reachBytes) = true) :
    Calls Tryd.prog 3 args W fun e W' => ∃ v, e = .returned v ∧ Rows.groveShapeSpec.post enc Tryd.prog Tryd.f3 false true false false W args v W' := by
  have hW' := hW
  obtain ⟨p, q, hA0, hV, rfl, hfz, hnd⟩ := hW
  have hA : DataW.TrodAll enc Tryd.prog W 0 (fun _ => true) true Tryd.f3.params.toList args.toList ds p := hA0
  rw [Tryd.params3] at hA hval
  rw [Tryd.params3] at hsz
  obtain ⟨v0, vs0, d0, ds0, p0, q0, hargs, rfl, rfl, h0, r0⟩ := trodAll_cons hA
  obtain ⟨rfl, rfl, rfl⟩ := trodAll_nil r0
  obtain rfl : args = #[v0] := by cases args; simp_all
  obtain ⟨rfl, rfl⟩ := trodVars_none hV
  obtain ⟨l0, i0, f0⟩ := N.open_ops (hval 0 22 v0 rfl rfl) h0 (N.near_of hsz (j := 0) rfl rfl)
  obtain ⟨l0, i0, f0⟩ := N.open_ops (hval 0 22 v0 rfl rfl) h0 (N.near_of hsz (j := 0) rfl rfl)
  have hT := tab_of hL
  clear hA0 hL hsz
  try simp only [List.append_nil] at hW'
  refine (walk v0 l0 (hid i0) (hid f0) hT).mono fun e W' ⟨he, hb⟩ => ?_
  subst he
  exact ⟨_, rfl, _, _, _, _, _, _, hW', trodAll_mk1 (shut_bool Tryd.underlying4 _), (trodAll_cons_mk (again_items (by kernel_rfl) (of_decide_eq_true (by kernel_rfl)) h0 (fun x hx => trod_lt h0 x hx) hb) trodAll_mk0), rfl, hb.frame _, fun h => by cases h⟩

theorem reads (os : Os) {H : Type} (enc : TypeId × Value → H) : ∃ places, DataW.whole enc Tryd.prog ((World.doorLaid Tryd.prog 400 os).forCall (fun _ _ => 0) ⟨#[], #[.slice none 0 0], []⟩).memory Tryd.f3.params.toList Rows.groveShapeSpec.vars false #[Value.slice none 0 0].toList 8 = some ([.nil], [], places) :=
  ⟨[], by kernel_rfl⟩
theorem laid_met (os : Os) (args : Array Value) : laidMet Tryd.prog Rows.groveShapeRow.laid ((World.doorLaid Tryd.prog 400 os).forCall (fun _ _ => 0) ⟨#[], args, []⟩).memory :=
  laidMet_of_run' 8 (by kernel_rfl) (by kernel_rfl)

set_option maxRecDepth 100000 in
theorem lifted (os : Os) (started : os.Started) (H : Type) (enc : TypeId × Value → H) (F : Stop.Interp) :
    ReturnsInHanded {} Tryd.checked os 3 .any ((OpenSpec.ofChange Rows.groveShapeSpec).preRow enc Tryd.prog Tryd.f3 Rows.groveShapeRow.domain false Rows.groveShapeRow.laid) (((OpenSpec.ofChange Rows.groveShapeSpec).at F).post enc Tryd.prog Tryd.f3 false true false false) := by
  obtain ⟨places, hx⟩ := reads os enc
  refine returnsInHanded_of_row (C := Tryd.checked) (s := (OpenSpec.ofChange Rows.groveShapeSpec)) own started (by kernel_rfl) Tryd.func3
    (witness_row_at (enc := enc) (C := Tryd.checked) false (World.doorLaid Tryd.prog 400 os) #[.slice none 0 0] rfl (by kernel_rfl) (by kernel_rfl) (by kernel_rfl)
      (OpenSpec.preRow_of_cond 8 hx (by kernel_rfl) (fun k hk => by cases hk) (by kernel_rfl) (laid_met os _))) ?_
  intro W base args ds gs before hval hW _ hcond hsz hL _ _
  exact contract H enc W base args ds gs before hval hW hL hsz

theorem over : Rows.GroveShapeSaid :=
  OpenClaim.holds_of_cond 3 Tryd.f3 rfl rfl rfl rfl rfl rfl rfl ⟨rfl, rfl, rfl, rfl, rfl⟩ rfl rfl rfl rfl rfl (by kernel_rfl) Tryd.func3 (by kernel_rfl)
    (of_decide_eq_true (by kernel_rfl)) (by unfold Func.isWrapper; first | (rw [if_pos (by decide +kernel)]; kernel_rfl) | (rw [if_neg (by decide +kernel)]; exact ⟨rfl, rfl⟩))
    (fun os started H enc _ F => by rw [OpenClaim.pre_eq_preRow]; exact lifted os started H enc F)
theorem plain (f : FuncId) (fn : Func) (hf : Tryd.pinned.checked.prog.funcNamed Rows.groveShapeRow.func = some f) (hfn : Tryd.pinned.checked.prog.funcs[f]? = some fn) :
    false = Tryd.pinned.checked.prog.looks [] ∧ ∀ (j : Nat) t, fn.params[j]? = some t → Tryd.pinned.checked.prog.wantsStandIn t = false := by
  obtain rfl : f = 3 := Option.some.inj ((show Tryd.prog.funcNamed Rows.groveShapeRow.func = some 3 by kernel_rfl).symm.trans hf) |>.symm
  obtain rfl : fn = Tryd.f3 := (Option.some.inj (Tryd.func3.symm.trans hfn)).symm
  refine ⟨by kernel_rfl, fun j t ht => ?_⟩
  rw [Tryd.params3] at ht
  have hm : t ∈ [22] := by simpa using Array.mem_of_getElem? ht
  have hall : ([22].all fun u => !Tryd.prog.wantsStandIn u) = true := by kernel_rfl
  exact (show Tryd.prog.wantsStandIn t = false by simpa using List.all_eq_true.1 hall t hm)
end GroveShape

theorem groveShape_holds : Rows.GroveShapeCardSaid :=
  Claim7.holds_tied_plain_at .later [] _ _ _ _ GroveShape.over (fun _ h => by cases h) (by kernel_rfl) (fun _ h => by cases h) groveShape_row_tie rfl ⟨rfl, rfl⟩ (by kernel_rfl) rfl GroveShape.plain (by kernel_rfl)
#print axioms groveShape_holds
end Go.Proofs.YtidccohjehegjaaDoor
