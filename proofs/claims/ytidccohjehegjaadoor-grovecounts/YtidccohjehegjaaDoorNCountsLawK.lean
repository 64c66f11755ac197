/- PROVED: of any script of calls on a tree, GroveCounts returns true: all kids together are all nodes but the root, and what stands below the root are as many items as there are nodes; the script reads afterwards as it read before. Its conditions: the table of glyph lies as the program's text lays it. -/
import Derived.Test.YtidccohjehegjaaDoorNLawKitK
namespace Go.Proofs.YtidccohjehegjaaDoor
open Go.RowKit Go.Shelf
open Go.ChangeShapes Go.WideShapes Go.ChangeAt
namespace GroveCounts
section
open N T
set_option maxRecDepth 100000 in
set_option maxHeartbeats 8000000 in
theorem walk {w : World} (V : Value) (l : List OV) (I : Hid (OpsIn V l w)) (HFF : Hid (∀ o ∈ l, FitO o)) (ht : Tab w) : Calls Tryd.prog 5 #[V] w fun e w' => e = .returned (.bool true) ∧ Below w.heap.size w w' := by
  have HT := hid ht
  clear ht
  obtain ⟨ao, cap, rfl, hl, hc⟩ := I.out.1
  have HC := hid hc
  clear hc
  go_enter Tryd.func5, Tryd.ntmps5
  go_wp2_with fail
  refine (new_any w).mono ?_
  rintro e w1 ⟨tb, mb, L, rfl, ht1, hb1⟩
  have T1 := hid ht1
  have HB1 := hid hb1
  clear ht1 hb1
  go_wp2_with fail
  refine (few_any _ l (hid (I.out.below HB1.out))).mono ?_
  rintro e w2 ⟨v, rfl, hv, hb2⟩
  have HB2 := hid (HB1.out.trans (hb2.mono HB1.out.size))
  have T2 := hid (T1.out.below hb2)
  clear hb2 T1
  rcases hv with rfl | rfl
  · go_wp2_with fail
    have HTR2 : Hid (∃ mb L, TreeIn w.heap.size tb mb none 1 L w2) := hid ⟨mb, L, T2.out⟩
    clear T2
    go_loopw [28] (fun v28 X => ∃ (q : Nat) (f : F) (nx : Int), v28 = .int .i64 (q : Int) ∧ q ≤ l.length ∧ Hid (T.Good f nx) ∧ Hid (∃ mb L, TreeIn w.heap.size tb mb f nx L X) ∧ Hid (Below w.heap.size w X)) (fun v28 _ => l.length - (intOf v28).toNat)
    case atStart => exact ⟨0, none, 1, rfl, by omega, hid T.Good.new, HTR2, HB2⟩
    case round =>
      obtain ⟨q, f, nx, rfl, hq, HGD, HTR, HG⟩ := hrel
      clear HTR2
      by_cases h1 : q < l.length
      · have h1' : (q : Int) < (l.length : Int) := by omega
        obtain ⟨g, o, rfl, hg, hcc⟩ := HC.out (by rintro rfl; simp at h1)
        obtain ⟨k0, k1, k2, k3, k4, k5, k6⟩ := hcc q h1
        have hB := HG.out
        have c0 := (hB.cell (p := ⟨g, o + q * 7, none⟩) hg).trans k0
        have c1 := (hB.cell (p := ⟨g, o + q * 7 + 1, none⟩) hg).trans k1
        have c2 := (hB.cell (p := ⟨g, o + q * 7 + 2, none⟩) hg).trans k2
        have c3 := (hB.cell (p := ⟨g, o + q * 7 + 3, none⟩) hg).trans k3
        have c4 := (hB.cell (p := ⟨g, o + q * 7 + 4, none⟩) hg).trans k4
        have c5 := (hB.cell (p := ⟨g, o + q * 7 + 5, none⟩) hg).trans k5
        have c6 := (hB.cell (p := ⟨g, o + q * 7 + 6, none⟩) hg).trans k6
        have HI := hid (I.out.2 l[q] (List.getElem_mem h1))
        have HFO := hid (HFF.out l[q] (List.getElem_mem h1))
        obtain ⟨aa, ac, hv, hlx, _⟩ := HI.out.1
        generalize l[q] = x at *
        obtain ⟨mb3, L3, t3⟩ := HTR.out
        have hA := (Below.refl wr.heap.size wr).alloc (Nat.le_refl _) (.cells (cellsO x) 29)
        have hN := heap_alloc_new wr (.cells (cellsO x) 29)
        obtain ⟨ws, hws⟩ : ∃ ws, wr.alloc (.cells (cellsO x) 29) = ws := ⟨_, rfl⟩
        rw [hws] at hA hN
        unfold cellsO at hws hN
        rw [hv] at c6 hws hN
        have T3 := hid (t3.below hA)
        have HBS := hid (hB.trans (hA.mono hB.size))
        have y0 : ws.cell? ⟨wr.heap.size, 0, none⟩ = some (.int .i64 x.k) := by rw [Lib.cell_of_heap hN]; rfl
        have y1 : ws.cell? ⟨wr.heap.size, 1, none⟩ = some (.int .i64 x.id) := by rw [Lib.cell_of_heap hN]; rfl
        have y2 : ws.cell? ⟨wr.heap.size, 2, none⟩ = some (.int .i64 x.to') := by rw [Lib.cell_of_heap hN]; rfl
        have y3 : ws.cell? ⟨wr.heap.size, 3, none⟩ = some (.int .i64 x.at') := by rw [Lib.cell_of_heap hN]; rfl
        have y4 : ws.cell? ⟨wr.heap.size, 4, none⟩ = some (.string x.nm) := by rw [Lib.cell_of_heap hN]; rfl
        have y5 : ws.cell? ⟨wr.heap.size, 5, none⟩ = some (.string x.tx) := by rw [Lib.cell_of_heap hN]; rfl
        have y6 : ws.cell? ⟨wr.heap.size, 6, none⟩ = some (.slice aa x.l.length ac) := by rw [Lib.cell_of_heap hN]; rfl
        have HV := hid hv
        clear hcc k0 k1 k2 k3 k4 k5 k6 hB t3 hA hN HTR hv
        have DA := hid (does_any T3 HGD x HFO (hid (fun w' hw' => by
          have hsz := HBS.out.size
          have := HBS.out.trans (hw'.below (B := w.heap.size) (fun b hb => by rw [List.mem_singleton.1 hb]; exact T3.out.tbB) hsz)
          exact HI.out.below this)) (hid (HT.out.below HBS.out)))
        have DG := hid (T.do_good HGD.out x.op)
        obtain ⟨⟨⟨f', nx'⟩, id, e0⟩, HR⟩ : ∃ r, Hid (doF f nx x.op = r) := ⟨_, hid rfl⟩
        rw [HR.out] at DA DG
        dsimp only at DA DG
        unfold opV at DA
        rw [HV.out] at DA
        go_wp2_with fail
        refine DA.out.mono ?_
        rintro e w5 ⟨rfl, hL5⟩
        have hB5 : Below w.heap.size w w5 := HBS.out.trans (hL5.turns.below (fun b hb => by
          rcases List.mem_cons.1 hb with z | z
          · rw [z]; exact T3.out.tbB
          · exact T3.out.graph.ge b z) HBS.out.size)
        have HB5 := hid hB5
        obtain ⟨⟨mb5, L5, ht5, _⟩, _⟩ := hL5
        have T5 := hid ht5
        clear hB5 ht5 DA y0 y1 y2 y3 y4 y5 y6 c0 c1 c2 c3 c4 c5 c6 hws T3
        go_wp2
        go_roundw
        case rel => exact ⟨q + 1, f', nx', by go_num, by omega, DG, hid ⟨mb5, L5, T5.out⟩, HB5⟩
        case measure => (simp [intOf]; try omega)
      · obtain rfl : q = l.length := by omega
        have h1' : ¬ (l.length : Int) < (l.length : Int) := by omega
        obtain ⟨mb3, L3, t3⟩ := HTR.out
        have T3 := hid t3
        clear t3 HTR
        go_wp2_with fail
        refine (order_any T3 (hid HGD.out.fine) (good_wfr HGD.out) HG.out.size).mono ?_
        rintro e w7 ⟨V7, rfl, hr7, hb7⟩
        rw [good_all HGD.out, ← ents_ids f 0] at hr7
        obtain ⟨es, HES⟩ : ∃ es, Hid (T.ents f 0 = es) := ⟨_, hid rfl⟩
        rw [HES.out] at hr7
        have hel : es.length = (ids f).length := by rw [← HES.out, ← ents_ids f 0, List.length_map]
        have hes1 : es.length ≤ 1000 := by rw [hel]; exact HGD.out.len
        obtain ⟨a7, c7, rfl, hl7, hc7⟩ := int_cells (IntRow.ints hr7 (by rw [List.length_map]; omega))
        have HC7 := hid hc7
        have HB7 := hid (HG.out.trans (hb7.mono HG.out.size))
        have T7 := hid (T3.out.below hb7)
        have hks : ksum es + (tops f).length = es.length := by rw [hel, ← HES.out]; exact ksum_ents f 0
        have HEL := hid hel
        have HKS := hid hks
        clear hr7 hb7 hc7 T3 hks hel
        rw [List.length_map]
        go_wp2_with fail
        go_loopw [6, 39] (fun v6 v39 X => ∃ j : Nat, v6 = .int .i64 ((ksum (es.take j) : Nat) : Int) ∧ v39 = .int .i64 (j : Int) ∧ j ≤ es.length ∧ Hid (Below w7.heap.size w7 X)) (fun _ v39 _ => es.length - (intOf v39).toNat)
        case atStart => exact ⟨0, by simp [ksum], rfl, by omega, hid (Below.refl _ _)⟩
        case round =>
          obtain ⟨j, rfl, rfl, hj, HX⟩ := hrel
          by_cases hj1 : j < es.length
          · have hj1' : (j : Int) < (es.length : Int) := by omega
            obtain ⟨g7, o7, rfl, hg7, hcc7⟩ := HC7.out (by intro z; rw [List.map_eq_nil_iff] at z; rw [z] at hj1; simp at hj1)
            have d7 := (HX.out.cell (p := ⟨g7, o7 + j, none⟩) hg7).trans (hcc7 j (by rw [List.length_map]; exact hj1))
            rw [List.getElem_map] at d7
            have hmem : es[j] ∈ T.ents f 0 := by rw [HES.out]; exact List.getElem_mem hj1
            have hkt := ksum_take es j hj1
            have hkl := ksum_le es (j + 1)
            have hkb := HKS.out
            generalize es[j] = e at d7 hmem hkt
            have T8 := hid (T7.out.below HX.out)
            have hm := T8.out.ent e hmem
            have hids : e.id ∈ ids f := by rw [← ents_ids f 0]; exact List.mem_map_of_mem hmem
            have hwf := HGD.out.fine.wf _ hids
            have hlk := look_mem T8.out.graph.map.nd (List.mem_map.2 ⟨_, hm, rfl⟩)
            dsimp only at hlk
            have HM := hid hm
            have HLK := hid hlk
            have HAT := hid (HGD.out.attrs e hmem)
            have hkk : e.kids.length ≤ 1000 := Nat.le_trans (kids_len HGD.out.nd hmem) HGD.out.len
            have HKT := hid hkt
            have HSUB := hid (sub_ent f 0 e HGD.out.nd hmem)
            clear hcc7 hm hlk hids hmem
            go_wp2_with fail
            refine (get_ok T8 e.id hwf e _ HM HLK (hid (by have := HAT.out.2; omega))).mono ?_
            rintro r w9 ⟨V9, rfl, hv9, hb9⟩
            obtain ⟨va, vc, rfl⟩ := slice_of hv9
            have hA9 := (Below.refl w9.heap.size w9).alloc (Nat.le_refl _) (.cells #[.int .i64 e.id, .int .i64 e.par, .int .i64 e.x.kind, .int .i64 (e.kids.length : Int), .string e.x.name, .string e.x.text, .slice va e.x.attrs.length vc] 40)
            have hN9 := heap_alloc_new w9 (.cells #[.int .i64 e.id, .int .i64 e.par, .int .i64 e.x.kind, .int .i64 (e.kids.length : Int), .string e.x.name, .string e.x.text, .slice va e.x.attrs.length vc] 40)
            obtain ⟨w10, hw10⟩ : ∃ w10, w9.alloc (.cells #[.int .i64 e.id, .int .i64 e.par, .int .i64 e.x.kind, .int .i64 (e.kids.length : Int), .string e.x.name, .string e.x.text, .slice va e.x.attrs.length vc] 40) = w10 := ⟨_, rfl⟩
            rw [hw10] at hA9 hN9
            have hT8s := hb9.size
            have T10 := hid ((T8.out.below hb9).below hA9)
            have HB10 := hid ((HX.out.trans (hb9.mono HX.out.size)).trans (hA9.mono (Nat.le_trans HX.out.size hb9.size)))
            have z3 : w10.cell? ⟨w9.heap.size, 3, none⟩ = some (.int .i64 (e.kids.length : Int)) := by rw [Lib.cell_of_heap hN9]; rfl
            have hlt9 := lt_of_block hN9
            have hsum : (ksum (es.take j) : Int) + (e.kids.length : Int) ≤ 9223372036854775807 := by omega
            clear hv9 hb9 hA9 hN9 T8 d7
            go_wp2_with fail
            refine (kid_past T10 e.id (e.kids.length : Int) hwf e _ HM HLK (Or.inr (by omega))).mono ?_
            rintro r w11 ⟨rfl, hw11⟩
            rw [hw11]
            clear hw11
            go_wp2_with fail
            have S0 : Hid (w10.drew.cell? ⟨w9.heap.size, 3, none⟩ = some (.int .i64 (e.kids.length : Int))) := hid z3
            refine till_begin (z := 10) (S := fun w' => w'.cell? ⟨w9.heap.size, 3, none⟩ = some (.int .i64 (e.kids.length : Int))) (by kernel_rfl) ?_
            refine till_free (i := 0) (v := ?_) rfl (by kernel_rfl) (by kernel_rfl) (by kernel_rfl) (by kernel_rfl) (fun _ _ _ h => h) (Or.inl ⟨by kernel_rfl, ?_⟩) S0.out ?_
            rotate_left
            · intro w' hs; go_simp; (try with_reducible rfl)
            refine till_free (i := 1) (v := ?_) rfl (by kernel_rfl) (by kernel_rfl) (by kernel_rfl) (by kernel_rfl) (fun _ _ _ h => h) (Or.inl ⟨by kernel_rfl, ?_⟩) S0.out ?_
            rotate_left
            · intro w' hs; go_simp; (try with_reducible rfl)
            refine till_free (i := 2) (v := ?_) rfl (by kernel_rfl) (by kernel_rfl) (by kernel_rfl) (by kernel_rfl) (fun _ _ _ h => h) (Or.inl ⟨by kernel_rfl, ?_⟩) S0.out ?_
            rotate_left
            · intro w' hs; go_simp; (try with_reducible rfl)
            refine till_free (i := 3) (v := ?_) rfl (by kernel_rfl) (by kernel_rfl) (by kernel_rfl) (by kernel_rfl) (fun _ _ _ h => h) (Or.inl ⟨by kernel_rfl, ?_⟩) S0.out ?_
            rotate_left
            · intro w' hs; go_simp; (try with_reducible rfl)
            refine till_free (i := 6) (v := ?_) rfl (by kernel_rfl) (by kernel_rfl) (by kernel_rfl) (by kernel_rfl) (fun _ _ _ h => h) (Or.inl ⟨by kernel_rfl, ?_⟩) S0.out ?_
            rotate_left
            · intro w' hs; go_simp; (try with_reducible rfl)
            refine till_via [8, 9, 10] (i := 7) (v := ?_) rfl (by kernel_rfl) (by kernel_rfl) (by kernel_rfl) (by kernel_rfl) (fun _ _ _ h => h) (Or.inl ⟨by kernel_rfl, ?_⟩) S0.out ?_
            rotate_left
            · intro w' hs; go_simp; (try with_reducible rfl)
            refine till_free (i := 8) (v := ?_) rfl (by kernel_rfl) (by kernel_rfl) (by kernel_rfl) (by kernel_rfl) (fun _ _ _ h => h) (Or.inl ⟨by kernel_rfl, ?_⟩) S0.out ?_
            rotate_left
            · intro w' hs; go_simp; (try with_reducible rfl)
            have IT := hid (items_any (hid (T10.out.below (Below.refl _ _).drew)) (hid HGD.out.fine) (hid (fun e2 he2 => by have := (HGD.out.attrs e2 he2).2; omega)) e.id hwf)
            refine till_call_if (i := 4) (by kernel_rfl) rfl (by kernel_rfl) 10 _ _ rfl (enters_of Tryd.func10 (by kernel_rfl) rfl) #[.pointer (some ⟨tb, 0, none⟩), .int .i64 e.id] (by kernel_rfl) (fun v' w' => ∃ l, ItmRow w10.drew.heap.size v' l w' ∧ l.map (·.1) = (rows (sub f e.id) 0).map (·.2) ∧ Below w10.drew.heap.size w10.drew w') (IT.out.mono (by rintro q2 w12 ⟨V12, l12, rfl, y1, y2, y3⟩; exact ⟨V12, rfl, l12, y1, y2, y3⟩)) ?_
            rintro V12 w12 ⟨l12, hr12, hm12, hb12⟩
            obtain ⟨ia, ic, rfl⟩ := slice_of hr12.1
            have hll : l12.length = (ids (sub f e.id)).length := by
              have := congrArg List.length hm12
              rw [List.length_map, List.length_map] at this
              rw [this, ← rows_ids (sub f e.id) 0, List.length_map]
            obtain ⟨x8, k8, hsub8, _, hkids8⟩ := HSUB.out
            have hge : 1 + e.kids.length ≤ l12.length := by
              rw [hll, hsub8, hkids8]
              have := tops_len k8
              simp only [ids, List.length_cons, List.length_append, List.length_nil]
              omega
            have hup : l12.length ≤ 1000 := by
              rw [hll]
              exact Nat.le_trans (sub_nodup f e.id HGD.out.nd).2 HGD.out.len
            have S1 : Hid (w12.cell? ⟨w9.heap.size, 3, none⟩ = some (.int .i64 (e.kids.length : Int))) := hid ((World.cell?_of_block (hb12.block _ hlt9)).trans S0.out)
            have HB12 := hid (HB10.out.trans (Below.mono (show Below w10.heap.size w10 w12 from ⟨hb12.os, hb12.tape, hb12.output, hb12.size, hb12.block⟩) HB10.out.size))
            have hdec : decide ((l12.length : Int) < 1 + (e.kids.length : Int)) = false := decide_eq_false (by omega)
            have HR12 := hid hr12
            clear hll hsub8 hkids8 hm12 hr12
            have hadd : IntKind.i64.wrap (1 + (e.kids.length : Int)) = 1 + (e.kids.length : Int) := by rw [IntKind.wrap_i64]; omega
            refine ⟨S1.out, ?_⟩
            refine till_free (i := 5) (v := ?_) rfl (by kernel_rfl) (by kernel_rfl) (by kernel_rfl) (by kernel_rfl) (fun _ _ _ h => h) (Or.inl ⟨by kernel_rfl, ?_⟩) S1.out ?_
            rotate_left
            · intro w' hs; go_simp; (try with_reducible rfl)
            refine till_free (i := 9) (v := .bool false) rfl (by kernel_rfl) (by kernel_rfl) (by kernel_rfl) (by kernel_rfl) (fun _ _ _ h => h) (Or.inl ⟨by kernel_rfl, ?_⟩) S1.out ?_
            · intro w' hs; go_simp
            refine till_value_if (i := 10) (v := .bool false) (w' := w12) (by kernel_rfl) rfl (by kernel_rfl) (by go_simp) S1.out ?_
            refine till_done (by kernel_rfl) ?_ _
            clear IT HSUB HAT HLK HM hdec hadd S0 S1 T10 hsum z3 hge hup hkl hkb hkk hwf hlt9 hb12 hT8s
            go_simp
            go_wp2
            go_roundw
            case rel => exact ⟨j + 1, by rw [HKT.out]; go_num, by go_num, by omega, HB12⟩
            case measure => (simp [intOf]; try omega)
          · obtain rfl : j = es.length := by omega
            have hj1' : ¬ (es.length : Int) < (es.length : Int) := by omega
            rw [List.take_length]
            have T13 := hid (T7.out.below HX.out)
            have HB13 := hid (HB7.out.trans (HX.out.mono HB7.out.size))
            have hks := HKS.out
            have htl : (tops f).length = if es.length = 0 then 0 else 1 := by
              rcases HGD.out.shape with z | ⟨i, x, k, z, _⟩
              · have : es.length = 0 := by rw [HEL.out, z]; simp [ids]
                rw [if_pos this, z]
                simp [tops]
              · have : es.length ≠ 0 := by rw [HEL.out, z]; simp [ids]
                rw [if_neg this, z]
                simp [tops]
            generalize ksum es = ks at hks
            go_wp2_with fail
            refine (alive_any wr (HT.out.below HB13.out)).mono ?_
            rintro r w14 ⟨rfl, hb14⟩
            have HB14 := hid (HB13.out.trans (hb14.mono HB13.out.size))
            have T14 := hid (T13.out.below hb14)
            have hmany : L3.length = es.length := by rw [HEL.out]; exact T14.out.many
            have LN := hid (len_any T14)
            rw [hmany] at LN
            clear hb14 T13
            by_cases hz : es.length = 0
            · rw [if_pos hz] at htl
              have hz' : ((es.length : Int) == 0) = true := by simpa using hz
              clear htl hks hz
              go_wp2_with fail
              refine LN.out.mono ?_
              rintro r w15 ⟨rfl, hw15⟩
              rw [hw15]
              clear hw15
              have RT := hid (root_any T14)
              go_wp2_with fail
              refine RT.out.mono ?_
              rintro r w15 ⟨rfl, hw15⟩
              rw [hw15]
              clear hw15
              go_wp2_with fail
              refine (items_any T14 (hid HGD.out.fine) (hid (fun e2 he2 => by have := (HGD.out.attrs e2 he2).2; omega)) (rootF f) (good_wfr HGD.out)).mono ?_
              rintro r w16 ⟨V16, l16, rfl, hr16, hm16, hb16⟩
              obtain ⟨ia, ic, rfl⟩ := slice_of hr16.1
              have hll : l16.length = es.length := by
                have := congrArg List.length hm16
                rw [List.length_map, List.length_map] at this
                rw [this, HEL.out, ← rows_ids f 0, List.length_map, good_all HGD.out]
              have HB16 := hid (HB14.out.trans (hb16.mono HB14.out.size))
              have T16 := hid (T14.out.below hb16)
              have LN2 := hid (len_any T16)
              rw [hmany] at LN2
              clear hr16 hm16 hb16
              rw [hll]
              clear hll
              go_wp2_with fail
              refine LN2.out.mono ?_
              rintro r w17 ⟨rfl, hw17⟩
              rw [hw17]
              clear hw17
              go_wp2
              go_ret
              exact ⟨rfl, HB16.out⟩
            · rw [if_neg hz] at htl
              have hz' : ((es.length : Int) == 0) = false := by simpa using hz
              have hk' : (ks : Int) = (es.length : Int) - 1 := by omega
              rw [hk']
              clear htl hks hz
              go_wp2_with fail
              refine LN.out.mono ?_
              rintro r w15 ⟨rfl, hw15⟩
              rw [hw15]
              clear hw15
              go_wp2_with fail
              refine LN.out.mono ?_
              rintro r w15 ⟨rfl, hw15⟩
              rw [hw15]
              clear hw15
              have RT := hid (root_any T14)
              go_wp2_with fail
              refine RT.out.mono ?_
              rintro r w15 ⟨rfl, hw15⟩
              rw [hw15]
              clear hw15
              go_wp2_with fail
              refine (items_any T14 (hid HGD.out.fine) (hid (fun e2 he2 => by have := (HGD.out.attrs e2 he2).2; omega)) (rootF f) (good_wfr HGD.out)).mono ?_
              rintro r w16 ⟨V16, l16, rfl, hr16, hm16, hb16⟩
              obtain ⟨ia, ic, rfl⟩ := slice_of hr16.1
              have hll : l16.length = es.length := by
                have := congrArg List.length hm16
                rw [List.length_map, List.length_map] at this
                rw [this, HEL.out, ← rows_ids f 0, List.length_map, good_all HGD.out]
              have HB16 := hid (HB14.out.trans (hb16.mono HB14.out.size))
              have T16 := hid (T14.out.below hb16)
              have LN2 := hid (len_any T16)
              rw [hmany] at LN2
              clear hr16 hm16 hb16
              rw [hll]
              clear hll
              go_wp2_with fail
              refine LN2.out.mono ?_
              rintro r w17 ⟨rfl, hw17⟩
              rw [hw17]
              clear hw17
              go_wp2
              go_ret
              exact ⟨rfl, HB16.out⟩
  · go_wp2_with fail
    refine (alive_any w2 (HT.out.below HB2.out)).mono ?_
    rintro e w3 ⟨rfl, hb3⟩
    have HB3 := hid (HB2.out.trans (hb3.mono HB2.out.size))
    clear hb3
    go_wp2
    go_ret
    exact ⟨rfl, HB3.out⟩
end

set_option maxRecDepth 100000 in
theorem contract (H : Type) (enc : TypeId × Value → H) (W : World) (base : Nat) (args : Array Value) (ds gs : List (DataW H)) (before : List MemPlace)
    (hval : ∀ (j : Nat) t v, Tryd.f5.params[j]? = some t → args[j]? = some v → Value.okWide Tryd.prog W .any base t v)
    (hW : DataW.Whole enc Tryd.prog Tryd.f5.params.toList Rows.groveCountsSpec.vars false W args.toList ds gs before) (hL : laidMetH Tryd.prog laidT W)
    (hsz : (DataW.weightsEach Tryd.prog (Tryd.f5.params.toList ++ (OpenSpec.ofChange Rows.groveCountsSpec).bare.plain.varTypes Tryd.prog) (ds ++ gs)).all (· ≤ reachBytes) = true) :
    Calls Tryd.prog 5 args W fun e W' => ∃ v, e = .returned v ∧ Rows.groveCountsSpec.post enc Tryd.prog Tryd.f5 false true false false W args v W' := by
  have hW' := hW
  obtain ⟨p, q, hA0, hV, rfl, hfz, hnd⟩ := hW
  have hA : DataW.TrodAll enc Tryd.prog W 0 (fun _ => true) true Tryd.f5.params.toList args.toList ds p := hA0
  rw [Tryd.params5] at hA hval
  rw [Tryd.params5] at hsz
  obtain ⟨v0, vs0, d0, ds0, p0, q0, hargs, rfl, rfl, h0, r0⟩ := trodAll_cons hA
  obtain ⟨rfl, rfl, rfl⟩ := trodAll_nil r0
  obtain rfl : args = #[v0] := by cases args; simp_all
  obtain ⟨rfl, rfl⟩ := trodVars_none hV
  obtain ⟨l0, i0, f0⟩ := N.open_ops (hval 0 22 v0 rfl rfl) h0 (N.near_of hsz (j := 0) rfl rfl)
  obtain ⟨l0, i0, f0⟩ := N.open_ops (hval 0 22 v0 rfl rfl) h0 (N.near_of hsz (j := 0) rfl rfl)
  have hT := tab_of hL
  clear hA0 hL hsz
  try simp only [List.append_nil] at hW'
  refine (walk v0 l0 (hid i0) (hid f0) hT).mono fun e W' ⟨he, hb⟩ => ?_
  subst he
  exact ⟨_, rfl, _, _, _, _, _, _, hW', trodAll_mk1 (shut_bool Tryd.underlying4 _), (trodAll_cons_mk (again_items (by kernel_rfl) (of_decide_eq_true (by kernel_rfl)) h0 (fun x hx => trod_lt h0 x hx) hb) trodAll_mk0), rfl, hb.frame _, fun h => by cases h⟩

theorem reads (os : Os) {H : Type} (enc : TypeId × Value → H) : ∃ places, DataW.whole enc Tryd.prog ((World.doorLaid Tryd.prog 400 os).forCall (fun _ _ => 0) ⟨#[], #[.slice none 0 0], []⟩).memory Tryd.f5.params.toList Rows.groveCountsSpec.vars false #[Value.slice none 0 0].toList 8 = some ([.nil], [], places) :=
  ⟨[], by kernel_rfl⟩
theorem laid_met (os : Os) (args : Array Value) : laidMet Tryd.prog Rows.groveCountsRow.laid ((World.doorLaid Tryd.prog 400 os).forCall (fun _ _ => 0) ⟨#[], args, []⟩).memory :=
  laidMet_of_run' 8 (by kernel_rfl) (by kernel_rfl)

set_option maxRecDepth 100000 in
theorem lifted (os : Os) (started : os.Started) (H : Type) (enc : TypeId × Value → H) (F : Stop.Interp) :
    ReturnsInHanded {} Tryd.checked os 5 .any ((OpenSpec.ofChange Rows.groveCountsSpec).preRow enc Tryd.prog Tryd.f5 Rows.groveCountsRow.domain false Rows.groveCountsRow.laid) (((OpenSpec.ofChange Rows.groveCountsSpec).at F).post enc Tryd.prog Tryd.f5 false true false false) := by
  obtain ⟨places, hx⟩ := reads os enc
  refine returnsInHanded_of_row (C := Tryd.checked) (s := (OpenSpec.ofChange Rows.groveCountsSpec)) own started (by kernel_rfl) Tryd.func5
    (witness_row_at (enc := enc) (C := Tryd.checked) false (World.doorLaid Tryd.prog 400 os) #[.slice none 0 0] rfl (by kernel_rfl) (by kernel_rfl) (by kernel_rfl)
      (OpenSpec.preRow_of_cond 8 hx (by kernel_rfl) (fun k hk => by cases hk) (by kernel_rfl) (laid_met os _))) ?_
  intro W base args ds gs before hval hW _ hcond hsz hL _ _
  exact contract H enc W base args ds gs before hval hW hL hsz

theorem over : Rows.GroveCountsSaid :=
  OpenClaim.holds_of_cond 5 Tryd.f5 rfl rfl rfl rfl rfl rfl rfl ⟨rfl, rfl, rfl, rfl, rfl⟩ rfl rfl rfl rfl rfl (by kernel_rfl) Tryd.func5 (by kernel_rfl)
    (of_decide_eq_true (by kernel_rfl)) (by unfold Func.isWrapper; first | (rw [if_pos (by decide +kernel)]; kernel_rfl) | (rw [if_neg (by decide +kernel)]; exact ⟨rfl, rfl⟩))
    (fun os started H enc _ F => by rw [OpenClaim.pre_eq_preRow]; exact lifted os started H enc F)
theorem plain (f : FuncId) (fn : Func) (hf : Tryd.pinned.checked.prog.funcNamed Rows.groveCountsRow.func = some f) (hfn : Tryd.pinned.checked.prog.funcs[f]? = some fn) :
    false = Tryd.pinned.checked.prog.looks [] ∧ ∀ (j : Nat) t, fn.params[j]? = some t → Tryd.pinned.checked.prog.wantsStandIn t = false := by
  obtain rfl : f = 5 := Option.some.inj ((show Tryd.prog.funcNamed Rows.groveCountsRow.func = some 5 by kernel_rfl).symm.trans hf) |>.symm
  obtain rfl : fn = Tryd.f5 := (Option.some.inj (Tryd.func5.symm.trans hfn)).symm
  refine ⟨by kernel_rfl, fun j t ht => ?_⟩
  rw [Tryd.params5] at ht
  have hm : t ∈ [22] := by simpa using Array.mem_of_getElem? ht
  have hall : ([22].all fun u => !Tryd.prog.wantsStandIn u) = true := by kernel_rfl
  exact (show Tryd.prog.wantsStandIn t = false by simpa using List.all_eq_true.1 hall t hm)
end GroveCounts

theorem groveCounts_holds : Rows.GroveCountsCardSaid :=
  Claim7.holds_tied_plain_at .later [] _ _ _ _ GroveCounts.over (fun _ h => by cases h) (by kernel_rfl) (fun _ h => by cases h) groveCounts_row_tie rfl ⟨rfl, rfl⟩ (by kernel_rfl) rfl GroveCounts.plain (by kernel_rfl)
#print axioms groveCounts_holds
end Go.Proofs.YtidccohjehegjaaDoor
