/- The walk of grove's Insert, whatever comes of it. -/
import Derived.Test.YtidccohjehegjaaDoorK9
import Derived.Test.YtidccohjehegjaaDoorNDeleteK
import Derived.Test.YtidccohjehegjaaDoorK10
namespace Go.Proofs.YtidccohjehegjaaDoor
open Go.RowKit Go.Shelf
namespace N
open T
section
variable {B tb mb : Nat} {f : F} {nx : Int} {L : List NS} {w : World}
theorem kids_len {f : F} (hd : (ids f).Nodup) {q : Int} {e : Nd} (h : e ∈ T.ents f q) : e.kids.length ≤ (ids f).length := by
  obtain ⟨x, k, h1, _, h3⟩ := sub_ent f q e hd h
  have h4 := (sub_nodup f e.id hd).2
  rw [h1] at h4
  rw [h3]
  have := tops_len k
  simp only [ids, List.length_cons, List.length_append, List.length_nil] at h4
  omega
theorem TreeIn.many (h : TreeIn B tb mb f nx L w) : L.length = (ids f).length := by
  have := h.ents.length_eq
  rw [List.length_map] at this
  rw [this, ← ents_ids f 0, List.length_map]
theorem TreeIn.mem (h : TreeIn B tb mb f nx L w) {e : Nd} {s : Slot} (hm : (e, s) ∈ L) : e ∈ T.ents f 0 ∧ e.id ∈ ids f := by
  have h1 : e ∈ T.ents f 0 := h.ents.mem_iff.1 (List.mem_map.2 ⟨_, hm, rfl⟩)
  refine ⟨h1, ?_⟩
  rw [← ents_ids f 0]
  exact List.mem_map_of_mem h1
theorem parts_attrs {x : P.Itm} (h : P.partsE x = 0) : x.attrs.length ≤ 20 ∧ (x.kind = 1 ∨ x.kind = 2) ∧ (x.kind = 1 → P.riseF Go.Proofs.YtidccohjehegjaaDoor.L.noB x.attrs = true) := by
  unfold P.partsE at h
  by_cases q : x.kind = 2
  · rw [if_pos q] at h
    by_cases q2 : x.name ≠ Go.Proofs.YtidccohjehegjaaDoor.L.noB ∨ x.attrs ≠ []
    · rw [if_pos q2] at h; cases h
    · have q3 : x.attrs = [] := Classical.byContradiction fun z => q2 (Or.inr z)
      rw [q3]
      exact ⟨by simp, Or.inr q, fun z => by omega⟩
  · rw [if_neg q] at h
    by_cases q2 : x.kind ≠ 1 ∨ x.text ≠ Go.Proofs.YtidccohjehegjaaDoor.L.noB
    · rw [if_pos q2] at h; cases h
    · rw [if_neg q2] at h
      have q4 : x.kind = 1 := Classical.byContradiction fun z => q2 (Or.inl z)
      by_cases q3 : Go.Proofs.YtidccohjehegjaaDoor.L.nameP x.name = false ∨ P.riseF Go.Proofs.YtidccohjehegjaaDoor.L.noB x.attrs = false
      · rw [if_pos q3] at h; cases h
      · rw [if_neg q3] at h
        have q6 : P.riseF Go.Proofs.YtidccohjehegjaaDoor.L.noB x.attrs = true := by
          cases z : P.riseF Go.Proofs.YtidccohjehegjaaDoor.L.noB x.attrs with
          | true => rfl
          | false => exact absurd (Or.inr z) q3
        by_cases q5 : 20 < x.attrs.length
        · rw [if_pos q5] at h; cases h
        · exact ⟨by omega, Or.inl q4, fun _ => q6⟩
theorem tops_ne {g : F} (h : ids g ≠ []) : tops g ≠ [] := by
  cases g with
  | none => simp [ids] at h
  | some n => obtain ⟨i, x, k, s⟩ := n; simp [tops]
set_option maxRecDepth 100000 in
set_option maxHeartbeats 4000000 in
theorem insert_ok (h : Hid (TreeIn B tb mb f nx L w)) (hf : Hid (Fine f)) (hnx : 1 ≤ nx) (hnx2 : nx ≤ 2147483647) (hlt : Hid (∀ i ∈ ids f, i < nx)) (e : Nd) (s : Slot) (hm : Hid ((e, s) ∈ L)) (hk : Hid (e.x.kind = 1)) (a : Nat) (V : Value) (l : List IV) (hll : l.length ≤ 140737488355328) (HI : Hid (∀ w', Turns [tb] w w' → ItemsIn V l w')) (FC : Hid (∀ x ∈ l, FitC x.1)) (ht : Hid (Tab w))
    (HR : Hid (uninE nx L.length e.kids.length (chain f 0 e.id).length (a : Int) (l.map (·.1)) = 0)) :
    Calls Tryd.prog 21 #[.pointer (some ⟨tb, 0, none⟩), .int .i64 e.id, .int .i64 (a : Int), V] w fun q w' => q = .returned (.tuple #[.int .i64 nx, .int .i64 0]) ∧ Left B tb mb L w (ins f e.id a (forestOf nx 0 (l.map (·.1)))) (nx + l.length) w' := by
  obtain ⟨hmem, hem⟩ := h.out.mem hm.out
  have hmany := h.out.many
  have hfl := hf.out.len
  have hkl : e.kids.length ≤ 100000 := Nat.le_trans (kids_len hf.out.nd hmem) hfl
  obtain ⟨ha, hfo, hdp, hn1, hn2⟩ : a ≤ e.kids.length ∧ forestE (l.map (·.1)) = 0 ∧ ((chain f 0 e.id).length : Int) + deepest (l.map (·.1)) < 40 ∧ L.length + l.length ≤ 1000 ∧ nx + (l.length : Int) ≤ 2147483647 := by
    have hr := HR.out
    unfold uninE at hr
    by_cases q1 : (a : Int) < 0 ∨ (e.kids.length : Int) < (a : Int)
    · rw [if_pos q1] at hr; cases hr
    · rw [if_neg q1] at hr
      by_cases q2 : forestE (l.map (·.1)) = 0
      · rw [if_neg (by simpa using q2)] at hr
        by_cases q3 : 40 ≤ ((chain f 0 e.id).length : Int) + deepest (l.map (·.1))
        · rw [if_pos q3] at hr; cases hr
        · rw [if_neg q3] at hr
          by_cases q4 : 1000 < L.length + (l.map (·.1)).length ∨ 2147483647 < nx + ((l.map (·.1)).length : Int)
          · rw [if_pos q4] at hr; cases hr
          · rw [List.length_map] at q4
            exact ⟨by omega, q2, by omega, by omega, by omega⟩
      · rw [if_pos (by simpa using q2)] at hr; exact absurd hr q2
  have hl0 : l ≠ [] := by
    rintro rfl
    simp [forestE] at hfo
  have hfo1 : forestF none (l.map (·.1)) = 0 := by
    unfold forestE at hfo
    rw [if_neg (by simpa using hl0)] at hfo
    exact hfo
  have I := hid (HI.out w (Turns.of_below (Below.refl _ _)))
  obtain ⟨ao, cap, rfl, hl, hcc⟩ := I.out.1
  have OF := hid (of_ok h 1 e.id (hf.out.wf _ hem) e s hm (hid (look_mem h.out.graph.map.nd (List.mem_map.2 ⟨_, hm.out, rfl⟩))) hk)
  have UN := hid (unins_any h hf hnx hnx2 (by omega) e s hm hem (a : Int) _ l (by omega) I FC ht 0 HR)
  have hat : Hid (∀ x ∈ l, x.1.attrs.length ≤ 100000) := hid fun x hx => by
    have := (parts_attrs (forest_parts _ none hfo1 x.1 (List.mem_map_of_mem hx)).1).1
    omega
  have HFO := hid hfo1
  have HA := hid ha
  have HEM := hid hem
  have HL0 := hid hl0
  have HKL := hid hkl
  clear hcc hfo hfo1 hdp ha hem hl0 hkl hmem hfl hmany HR
  go_enter Tryd.func21, Tryd.ntmps21
  go_wp2_with fail
  refine OF.out.mono ?_
  rintro r w1 ⟨rfl, hw1⟩
  rw [hw1]
  clear hw1 OF
  go_wp2_with fail
  refine UN.out.mono ?_
  rintro r w2 ⟨rfl, hb2⟩
  have HB2 := hid hb2
  have T2 := hid (h.out.below hb2)
  clear hb2 UN
  go_wp2_with fail
  refine (fresh_any T2 l.length (by omega) (by omega) hnx2).mono ?_
  rintro r w3 ⟨V3, rfl, hr3, hb3⟩
  have HR3 := hid hr3
  have HB3 := hid hb3
  have T3 := hid (T2.out.below hb3)
  clear hr3 hb3
  obtain ⟨c0, c1, c2⟩ := T3.out.cells
  have fz : w3.frozen? ⟨tb, 2, none⟩ = false := Lib.frozen_of_heap T3.out.top 2
  have hbig : nx + (l.length : Int) ≤ 9223372036854775807 := by omega
  clear c0 c1
  go_wp2_with fail
  obtain ⟨W0, hW0⟩ : ∃ W0, w3.setCell ⟨tb, 2, none⟩ (.int .i64 (nx + (l.length : Int))) = W0 := ⟨_, rfl⟩
  rw [hW0]
  have hs0 : W0.heap.size = w3.heap.size := by rw [← hW0]; simp [World.setCell]
  have oth : ∀ b, b ≠ tb → W0.heap[b]? = w3.heap[b]? := fun b hb => by rw [← hW0]; exact Below.heap_setCell _ _ _ _ hb
  have ht0 : W0.heap[tb]? = some (.cells #[.map (some mb), .int .i64 (rootF f), .int .i64 (nx + (l.length : Int))] 64 (0, 0)) := by rw [← hW0]; exact heap_setCell_same _ _ _ _ _ _ T3.out.top
  have hTn : Turns [tb] w3 W0 := by
    rw [← hW0]
    exact ⟨rfl, rfl, rfl, by simp [World.setCell], fun b _ hb => Below.heap_setCell _ _ _ _ (by simpa using hb)⟩
  have htb0 := T3.out.tb0
  have hg0 : GraphIn B mb L W0 := T3.out.graph.same fun b hb => oth b (fun q => htb0 (by rw [← q]; exact hb))
  have hr0 : IntRow w2.heap.size V3 (freshL nx l.length) W0 := HR3.out.same fun q hq => oth q (fun z => by
    have h1 := (own_lt HR3.out hq).1
    have h2 := lt_of_block T2.out.top
    omega)
  have hB3 : Below w.heap.size w w3 := HB2.out.trans (HB3.out.mono HB2.out.size)
  have hi0 : ItemsIn (.slice ao l.length cap) l W0 := HI.out W0 ((Turns.of_below hB3).trans hTn (fun b hb => Or.inl hb))
  obtain ⟨ka, kc, hkv⟩ := kv_form (h.out.graph.nodes _ hm.out)
  dsimp only at hkv
  have d7 := (hg0.nodes _ hm.out).cells.2.2.2.2.2.2.2
  dsimp only at d7
  rw [hkv] at d7
  have HS0 : Hid (W0.drew.cell? ⟨s.g, 7, none⟩ = some (.slice ka e.kids.length kc)) := hid d7
  have EP : Hid (∀ args w, (callFunc 31 args).run Tryd.prog w = .ok (.enter 31 args) w) := hid (enters_of Tryd.func31 (by kernel_rfl) rfl)
  have EI : Hid (∀ args w, (callFunc 37 args).run Tryd.prog w = .ok (.enter 37 args) w) := hid (enters_of Tryd.func37 (by kernel_rfl) rfl)
  have HG0 := hid hg0
  have HT0 := hid ht0
  have HI0 := hid hi0
  have HR0 := hid hr0
  have HTN := hid hTn
  have HKV := hid hkv
  have HB3' := hid hB3
  clear hW0 oth ht0 hTn htb0 hg0 hr0 hi0 d7 hkv fz c2 hB3
  refine till_begin (z := 14) (S := fun w' => w'.cell? ⟨s.g, 7, none⟩ = some (.slice ka e.kids.length kc)) (by kernel_rfl) ?_
  refine till_free (i := 0) (v := ?_) rfl (by kernel_rfl) (by kernel_rfl) (by kernel_rfl) (by kernel_rfl) (fun _ _ _ h => h) (Or.inl ⟨by rfl, ?_⟩) HS0.out ?_
  rotate_left
  · intro w' hs; go_simp; (try with_reducible rfl)
  refine till_free (i := 1) (v := ?_) rfl (by kernel_rfl) (by kernel_rfl) (by kernel_rfl) (by kernel_rfl) (fun _ _ _ h => h) (Or.inl ⟨by rfl, ?_⟩) HS0.out ?_
  rotate_left
  · intro w' hs; go_simp; (try with_reducible rfl)
  refine till_free (i := 2) (v := ?_) rfl (by kernel_rfl) (by kernel_rfl) (by kernel_rfl) (by kernel_rfl) (fun _ _ _ h => h) (Or.inl ⟨by rfl, ?_⟩) HS0.out ?_
  rotate_left
  · intro w' hs; go_simp; (try with_reducible rfl)
  refine till_free (i := 3) (v := ?_) rfl (by kernel_rfl) (by kernel_rfl) (by kernel_rfl) (by kernel_rfl) (fun _ _ _ h => h) (Or.inl ⟨by rfl, ?_⟩) HS0.out ?_
  rotate_left
  · intro w' hs; go_simp; (try with_reducible rfl)
  refine till_via [11, 14] (i := 4) (v := ?_) rfl (by kernel_rfl) (by kernel_rfl) (by kernel_rfl) (by kernel_rfl) (fun _ _ _ h => h) (Or.inl ⟨by rfl, ?_⟩) HS0.out ?_
  rotate_left
  · intro w' hs; go_simp; (try with_reducible rfl)
  refine till_free (i := 5) (v := ?_) rfl (by kernel_rfl) (by kernel_rfl) (by kernel_rfl) (by kernel_rfl) (fun _ _ _ h => h) (Or.inl ⟨by rfl, ?_⟩) HS0.out ?_
  rotate_left
  · intro w' hs; go_simp; (try with_reducible rfl)
  refine till_free (i := 6) (v := ?_) rfl (by kernel_rfl) (by kernel_rfl) (by kernel_rfl) (by kernel_rfl) (fun _ _ _ h => h) (Or.inl ⟨by rfl, ?_⟩) HS0.out ?_
  rotate_left
  · intro w' hs; go_simp; (try with_reducible rfl)
  refine till_free (i := 7) (v := ?_) rfl (by kernel_rfl) (by kernel_rfl) (by kernel_rfl) (by kernel_rfl) (fun _ _ _ h => h) (Or.inl ⟨by rfl, ?_⟩) HS0.out ?_
  rotate_left
  · intro w' hs; go_simp; (try with_reducible rfl)
  refine till_free (i := 8) (v := ?_) rfl (by kernel_rfl) (by kernel_rfl) (by kernel_rfl) (by kernel_rfl) (fun _ _ _ h => h) (Or.inl ⟨by rfl, ?_⟩) HS0.out ?_
  rotate_left
  · intro w' hs; go_simp; (try with_reducible rfl)
  refine till_free (i := 9) (v := ?_) rfl (by kernel_rfl) (by kernel_rfl) (by kernel_rfl) (by kernel_rfl) (fun _ _ _ h => h) (Or.inl ⟨by rfl, ?_⟩) HS0.out ?_
  rotate_left
  · intro w' hs; go_simp; (try with_reducible rfl)
  obtain ⟨g, HG⟩ : ∃ g, Hid (forestOf nx 0 (l.map (·.1)) = g) := ⟨_, hid rfl⟩
  have HFL : Hid ((freshL nx l.length).length = l.length) := hid (fresh_len l.length nx)
  have HROWS : Hid (rows g 0 = (freshL nx l.length).zip (l.map (·.1))) := hid (by rw [← HG.out, forest_rows nx 0 HFO.out, named_zip, List.length_map])
  have HIDS : Hid (ids g = freshL nx l.length) := hid (by
    rw [← rows_ids g 0, HROWS.out, List.map_fst_zip (by rw [HFL.out, List.length_map]; exact Nat.le_refl _)])
  have HND : Hid ((ids g).Nodup) := hid (by rw [← HG.out, forest_ids nx 0 HFO.out]; exact named_nodup _ _ _)
  have HST : Hid (stairs 0 0 ((freshL nx l.length).zip (l.map (·.1)))) := hid (by
    have := forest_stairs (l.map (·.1)) none nx 0 HFO.out
    rw [named_zip, List.length_map] at this
    simpa [topS] using this)
  have HPG : Hid (e.id ∉ ids g) := hid (by rw [HIDS.out, fresh_mem]; have := hlt.out e.id HEM.out; omega)
  have HWF : Hid (∀ i ∈ freshL nx l.length, i ∉ (idg L).map (·.1) ∧ wfI i) := hid (by
    intro i hi
    rw [fresh_mem] at hi
    refine ⟨fun q => ?_, ?_⟩
    · simp only [idg, List.map_map, List.mem_map, Function.comp_apply] at q
      obtain ⟨⟨e2, s2⟩, hp, rfl⟩ := q
      have := hlt.out _ (h.out.mem hp).2
      dsimp only at hi
      omega
    · simp only [wfI, Lit.wf, Bool.and_eq_true, decide_eq_true_eq]
      refine ⟨Int.le_trans (by decide : IntKind.i64.min ≤ 0) (by omega), Int.le_trans (by omega : i ≤ 9223372036854775807) (by decide)⟩)
  have HLN : Hid (l.length ≤ 100000) := hid (by omega)
  have HBG : Hid (L.length ≤ 100000) := hid (by omega)
  have HJ : Hid (IntsIn V3 (freshL nx l.length) W0.drew) := hid (IntRow.ints (show IntRow w2.heap.size V3 (freshL nx l.length) W0.drew from HR0.out) (by rw [HFL.out]; omega))
  have PA := hid (plant_any (B := B) (tb := tb) (mb := mb) (L0 := L) (w := W0.drew) (rootF f) (nx + (l.length : Int)) e.id _ V3 l (freshL nx l.length) _ g (hid (show ItemsIn _ l W0.drew from HI0.out)) HJ (hid rfl) HFL.out HLN.out HROWS HST HND HPG HWF HBG hat (hid (HG0.out.same (w' := W0.drew) fun _ _ => rfl)) (hid (show W0.drew.heap[tb]? = _ from HT0.out)) (fun q => h.out.tb0 (by rw [q]; exact List.mem_cons_self ..)))
  refine till_call (i := 10) (by kernel_rfl) rfl rfl 31 _ _ rfl EP.out #[.pointer (some ⟨tb, 0, none⟩), .int .i64 e.id, .slice ao l.length cap, V3] (by kernel_rfl) (fun v w' => ∃ L1, IntRow W0.drew.heap.size v (tops g) w' ∧ L1.map (·.1) = T.ents g e.id ∧ GraphIn B mb (L ++ L1) w' ∧ (∀ b ∈ allB L1, W0.drew.heap.size ≤ b) ∧ (∀ q, v.ownBlock = some q → q ∉ mb :: allB (L ++ L1)) ∧ W0.drew.grownBy w' (some mb)) (PA.out.mono (by rintro e5 w5 ⟨V5, L1, rfl, p⟩; exact ⟨V5, rfl, L1, p⟩)) ?_
  rintro V5 w5 ⟨L1, hr5, hm5, hg5, hn5, ho5, hk5⟩
  have HR5 := hid hr5
  have HM5 := hid hm5
  have HG5 := hid hg5
  have HN5 := hid hn5
  have HO5 := hid ho5
  have HK5 := hid hk5
  have hm5' : (e, s) ∈ L ++ L1 := List.mem_append_left _ hm.out
  have hnd5 := hg5.nodes _ hm5'
  have d7 := hnd5.cells.2.2.2.2.2.2.2
  have hkr := hnd5.kids
  dsimp only at d7 hkr
  rw [HKV.out] at d7 hkr
  have HS5 : Hid (w5.cell? ⟨s.g, 7, none⟩ = some (.slice ka e.kids.length kc)) := hid d7
  have hBw : B ≤ w5.heap.size := by
    have h1 := hg5.ge mb (List.mem_cons_self ..)
    have h2 := hg5.map.lt
    omega
  have htl : (tops g).length ≤ 1000 := by
    have := tops_len g
    rw [HIDS.out, HFL.out] at this
    omega
  have htn : tops g ≠ [] := tops_ne (by rw [HIDS.out]; intro q; have h1 := HFL.out; rw [q] at h1; exact HL0.out (List.length_eq_zero_iff.1 h1.symm))
  have SI := hid (sins_any (vs := tops g) (V := V5) hkr HA.out htn (show w5.ownsRow W0.drew.heap.size 3 1 V5 (tops g).length (encK (tops g)) from hr5) (fun q hq z => ho5 q hq (List.mem_cons_of_mem _ (List.mem_flatMap.2 ⟨(e, s), hm5', mem_blks.2 (Or.inr (Or.inr (by rw [HKV.out]; exact z)))⟩))) (by have := HKL.out; omega) hBw)
  clear hr5 hm5 hg5 hn5 ho5 hk5 hnd5 d7 hkr hBw htl PA HJ HI0 HR0
  refine ⟨HS5.out, ?_⟩
  refine till_call (i := 11) (by kernel_rfl) rfl rfl 37 _ _ rfl EI.out #[.slice ka e.kids.length kc, .int .i64 (a : Int), V5] (by kernel_rfl) (fun v w' => ∃ q cp, v = .slice (some ⟨q, 0, none⟩) (e.kids.length + (tops g).length) cp ∧ w'.ownsRow B 3 1 (.slice (some ⟨q, 0, none⟩) (e.kids.length + (tops g).length) cp) (e.kids.length + (tops g).length) (encK (insL e.kids a (tops g))) ∧ w5.grownBy w' (Value.slice ka e.kids.length kc).ownBlock ∧ ((Value.slice ka e.kids.length kc).ownBlock = some q ∨ q = w5.heap.size)) (SI.out.mono (by rintro e6 w6 ⟨q, cp, rfl, p⟩; exact ⟨_, rfl, q, cp, rfl, p⟩)) ?_
  rintro V6 w6 ⟨q, cp, rfl, hr6, hk6, hq6⟩
  have hm5' : (e, s) ∈ L ++ L1 := List.mem_append_left _ hm.out
  rw [← HKV.out] at hk6 hq6
  have hil : (insL e.kids a (tops g)).length = e.kids.length + (tops g).length := insL_len _ _ _ HA.out
  obtain ⟨hs6, L', hG', hL', hid', hbl', htn'⟩ := kids_graph HG5.out hm5' hk6 hil hr6 hq6 (fun q => { q with kids := insL q.kids a (tops g) }) rfl
  have HS6 : Hid (w6.cell? ⟨s.g, 7, none⟩ = some (.slice ka e.kids.length kc)) := hid ((World.cell?_of_block hs6).trans HS5.out)
  have HF6 : Hid (w6.frozen? ⟨s.g, 7, none⟩ = false) := hid (Lib.frozen_of_heap (hs6.trans (HG5.out.nodes _ hm5').cell) 7)
  have HGG := hid hG'
  have HLL := hid hL'
  have HBL := hid hbl'
  have HTT := hid htn'
  clear hm5' hil hs6 hG' hL' hid' hbl' htn' hr6 hk6 hq6 SI
  refine ⟨HS6.out, ?_⟩
  refine till_free (i := 12) (v := ?_) rfl (by kernel_rfl) (by kernel_rfl) (by kernel_rfl) (by kernel_rfl) (fun _ _ _ h => h) (Or.inl ⟨by rfl, ?_⟩) HS6.out ?_
  rotate_left
  · intro w' hs; go_simp; (try with_reducible rfl)
  refine till_free (i := 13) (v := ?_) rfl (by kernel_rfl) (by kernel_rfl) (by kernel_rfl) (by kernel_rfl) (fun _ _ _ h => h) (Or.inl ⟨by rfl, ?_⟩) HS6.out ?_
  rotate_left
  · intro w' hs; go_simp; (try with_reducible rfl)
  refine till_store (i := 14) (by kernel_rfl) rfl rfl 36 (.tmp 55) (.tmp 53) rfl (.pointer (some ⟨s.g, 7, none⟩)) (.slice (some ⟨q, 0, none⟩) (e.kids.length + (tops g).length) cp) ?_ ?_ (w' := w6.setCell ⟨s.g, 7, none⟩ (.slice (some ⟨q, 0, none⟩) (e.kids.length + (tops g).length) cp)) ?_ (fun h => absurd rfl h) ?_
  · kernel_rfl
  · kernel_rfl
  · have e1 := HS6.out
    have e2 := HF6.out
    simp [Instr.storeAt, go_sem, e1, e2]
  refine till_done (by kernel_rfl) ?_ _
  have hne : freshL nx l.length ≠ [] := fun z => by have h1 := HFL.out; rw [z] at h1; exact HL0.out (List.length_eq_zero_iff.1 h1.symm)
  generalize w6.setCell ⟨s.g, 7, none⟩ (.slice (some ⟨q, 0, none⟩) (e.kids.length + (tops g).length) cp) = w7 at HGG HTT ⊢
  obtain ⟨q3, c3, rfl, hq1, hq2, _, hq4⟩ := HR3.out.cells hne
  have hpos : 0 < (freshL nx l.length).length := List.length_pos_iff.2 hne
  have d0 := hq4 0 hpos
  have hf0 : (freshL nx l.length)[0] = nx := by
    have h0 := HL0.out
    cases l with
    | nil => exact absurd rfl h0
    | cons x r => rfl
  rw [hf0] at d0
  have sz0 : W0.heap.size = w3.heap.size := hs0
  have szd : W0.drew.heap.size = W0.heap.size := rfl
  have sz2 : w.heap.size ≤ w2.heap.size := HB2.out.size
  have sz3 : w2.heap.size ≤ w3.heap.size := HB3.out.size
  have sz5 : W0.drew.heap.size ≤ w5.heap.size := HK5.out.size
  have hoL : ∀ b ∈ mb :: allB L, b < w.heap.size := h.out.graph.lt
  have htbl : tb < w.heap.size := lt_of_block h.out.top
  have out1 : ∀ b, b < W0.heap.size → b ∉ allB L → b ∉ allB (L ++ L1) := fun b hb hn z => by
    rw [allB_app, List.mem_append] at z
    rcases z with z | z
    · exact hn z
    · have := HN5.out b z; omega
  have hq5 : w7.heap[q3]? = w3.heap[q3]? := by
    have y1 := HTT.out.block q3 (by omega) (out1 q3 (by omega) (fun z => by have := hoL q3 (List.mem_cons_of_mem _ z); omega))
    have y2 := HK5.out.block q3 (by omega) (fun z => by have z' := Option.some.inj z; have := hoL mb (List.mem_cons_self ..); omega)
    have y3 := HTN.out.block q3 hq2 (fun z => by have := List.mem_singleton.1 z; omega)
    exact y1.trans (y2.trans y3)
  have d0' : w7.cell? ⟨q3, 0, none⟩ = some (.int .i64 nx) := (World.cell?_of_block hq5).trans d0
  have hTB : w7.heap[tb]? = some (.cells #[.map (some mb), .int .i64 (rootF f), .int .i64 (nx + (l.length : Int))] 64 (0, 0)) := by
    have y1 := HTT.out.block tb (by omega) (out1 tb (by omega) (fun z => h.out.tb0 (List.mem_cons_of_mem _ z)))
    have y2 := HK5.out.block tb (by omega) (fun z => h.out.tb0 (by rw [Option.some.inj z]; exact List.mem_cons_self ..))
    exact y1.trans (y2.trans HT0.out)
  have hbw : ∀ b ∈ mb :: allB L', b ∈ mb :: allB L ∨ w.heap.size ≤ b := by
    intro b hb
    rcases List.mem_cons.1 hb with z | z
    · exact Or.inl (by rw [z]; exact List.mem_cons_self ..)
    · rcases HBL.out b z with y | y
      · rw [allB_app, List.mem_append] at y
        rcases y with y | y
        · exact Or.inl (List.mem_cons_of_mem _ y)
        · have := HN5.out b y; exact Or.inr (by omega)
      · exact Or.inr (by omega)
  have DN : Hid (Left B tb mb L w (ins f e.id a g) (nx + (l.length : Int)) w7) := hid (by
    refine ⟨⟨mb, L', insert_tree hf.out.nd h.out.ents HM5.out HEM.out HPG.out HGG.out HLL.out hTB h.out.tbB (fun z => ?_), hbw⟩, ?_⟩
    · rcases hbw tb z with y | y
      · exact h.out.tb0 y
      · omega
    · have t1 : Turns (tb :: mb :: allB L) w w3 := Turns.of_below (HB2.out.trans (HB3.out.mono sz2))
      have t2 := t1.trans HTN.out (fun b hb => Or.inl (by rw [List.mem_singleton.1 hb]; exact List.mem_cons_self ..))
      have t3 : Turns [mb] W0 w5 := ⟨HK5.out.os, HK5.out.tape, HK5.out.output, HK5.out.size, fun b hb hq => HK5.out.block b hb (fun z => hq (by rw [Option.some.inj z]; exact List.mem_singleton.2 rfl))⟩
      have t4 := t2.trans t3 (fun b hb => Or.inl (by rw [List.mem_singleton.1 hb]; exact List.mem_cons_of_mem _ (List.mem_cons_self ..)))
      refine t4.trans HTT.out (fun b hb => ?_)
      rw [allB_app, List.mem_append] at hb
      rcases hb with z | z
      · exact Or.inl (List.mem_cons_of_mem _ (List.mem_cons_of_mem _ z))
      · have := HN5.out b z; exact Or.inr (by omega))
  rw [HFL.out]
  have hlp : 0 < l.length := List.length_pos_iff.2 HL0.out
  clear d0 hf0 hpos hq4 hTB hbw hq5 out1 hoL hne
  go_wp2
  go_ret2
  rw [HG.out]
  exact ⟨rfl, DN.out⟩
end
end N
end Go.Proofs.YtidccohjehegjaaDoor
namespace Go.Proofs.YtidccohjehegjaaDoor
open Go.RowKit Go.Shelf
namespace N
open T
theorem insertF_out {f : F} {nx p at' : Int} {l : List P.Itm} (h : p ∉ ids f) : insertF f nx p at' l = ((f, nx), 0, 60) := by
  unfold insertF
  rw [if_pos h]
theorem insertF_in {f : F} (hd : (ids f).Nodup) {e : Nd} (he : e ∈ T.ents f 0) (nx at' : Int) (l : List P.Itm) :
    insertF f nx e.id at' l = if e.x.kind ≠ 1 then ((f, nx), 0, 68) else if uninE nx (ids f).length e.kids.length (chain f 0 e.id).length at' l ≠ 0 then ((f, nx), 0, uninE nx (ids f).length e.kids.length (chain f 0 e.id).length at' l)
      else ((ins f e.id at'.toNat (forestOf nx ((chain f 0 e.id).length : Int) l), nx + l.length), nx, 0) := by
  have hem : e.id ∈ ids f := by rw [← ents_ids f 0]; exact List.mem_map_of_mem he
  obtain ⟨x, k, h1, h2, h3⟩ := sub_ent f 0 e hd he
  obtain ⟨pre, y, m, k', post, A⟩ := at_of f 0 e.id hd hem
  have hch := chain_level f 0 e.id 0 (atL y m) hd A.mem
  have hm : (itemAt (rows f 0) pre.length).level + 1 = ((chain f 0 e.id).length : Int) := by
    rw [A.item, hch]
    omega
  have hrl : (rows f 0).length = (ids f).length := by rw [← rows_ids f 0, List.length_map]
  have hkx : x.kind = e.x.kind := by rw [h2]; rfl
  unfold insertF
  rw [if_neg (not_not_intro hem), h1]
  simp only [A.find, hm, hrl, hkx]
  by_cases q1 : e.x.kind ≠ 1
  · rw [if_pos q1, if_pos q1]
  · rw [if_neg q1, if_neg q1]
    unfold uninE
    rw [← h3]
    by_cases q2 : at' < 0 ∨ (e.kids.length : Int) < at'
    · simp [q2]
    · rw [if_neg q2, if_neg q2]
      generalize forestE l = fe
      by_cases q3 : fe = 0
      · subst q3
        by_cases q4 : 40 ≤ ((chain f 0 e.id).length : Int) + deepest l
        · simp [q4]
        · by_cases q5 : 1000 < (ids f).length + l.length ∨ 2147483647 < nx + (l.length : Int)
          · simp [q4, q5]
          · simp [q4, q5]
      · simp [q3]
section
variable {B tb mb : Nat} {f f' : F} {nx : Int} {L : List NS} {w w' : World}
theorem Left.turn (h : Left B tb mb L w f nx w') (he : (T.ents f 0).Perm (T.ents f' 0)) (hr : rootF f = rootF f') : Left B tb mb L w f' nx w' := by
  obtain ⟨⟨mb', L', ht, hb⟩, h2⟩ := h
  exact ⟨⟨mb', L', ⟨ht.graph, ht.ents.trans he, by rw [ht.top, hr], ht.tbB, ht.tb0⟩, hb⟩, h2⟩
set_option maxRecDepth 100000 in
set_option maxHeartbeats 4000000 in
theorem insert_none (h : Hid (TreeIn B tb mb f nx L w)) (id at' : Int) (hw : wfI id) (hn : id ∉ ids f) (V : Value) (l : List IV) (I : Hid (ItemsIn V l w)) :
    Calls Tryd.prog 21 #[.pointer (some ⟨tb, 0, none⟩), .int .i64 id, .int .i64 at', V] w fun q w' => q = .returned (.tuple #[.int .i64 0, .int .i64 60]) ∧ Left B tb mb L w f nx w' := by
  obtain ⟨ao, cap, rfl, hl, hcc⟩ := I.out.1
  have hlk : N.look (idg L) id = none := by
    rcases h.out.find id with ⟨_, q⟩ | ⟨_, _, _, _, _, q, _⟩
    · exact q
    · exact absurd q hn
  have OF := hid (of_none h 1 id hw (hid hlk))
  clear hcc hlk hn
  go_enter Tryd.func21, Tryd.ntmps21
  go_wp2_with fail
  refine OF.out.mono ?_
  rintro r w1 ⟨rfl, rfl⟩
  go_wp2
  go_ret2
  exact ⟨rfl, Left.same h.out (Below.refl _ _)⟩
set_option maxRecDepth 100000 in
set_option maxHeartbeats 4000000 in
theorem insert_kind (h : Hid (TreeIn B tb mb f nx L w)) (hf : Hid (Fine f)) (e : Nd) (s : Slot) (hm : Hid ((e, s) ∈ L)) (hk : e.x.kind ≠ 1) (at' : Int) (V : Value) (l : List IV) (I : Hid (ItemsIn V l w)) :
    Calls Tryd.prog 21 #[.pointer (some ⟨tb, 0, none⟩), .int .i64 e.id, .int .i64 at', V] w fun q w' => q = .returned (.tuple #[.int .i64 0, .int .i64 68]) ∧ Left B tb mb L w f nx w' := by
  obtain ⟨ao, cap, rfl, hl, hcc⟩ := I.out.1
  have OF := hid (of_kind h 1 e.id (hf.out.wf _ (h.out.mem hm.out).2) e s hm (hid (look_mem h.out.graph.map.nd (List.mem_map.2 ⟨_, hm.out, rfl⟩))) hk)
  clear hcc hk
  go_enter Tryd.func21, Tryd.ntmps21
  go_wp2_with fail
  refine OF.out.mono ?_
  rintro r w1 ⟨rfl, rfl⟩
  go_wp2
  go_ret2
  exact ⟨rfl, Left.same h.out (Below.refl _ _)⟩
set_option maxRecDepth 100000 in
set_option maxHeartbeats 4000000 in
theorem insert_bad (h : Hid (TreeIn B tb mb f nx L w)) (hf : Hid (Fine f)) (hnx : 1 ≤ nx) (hnx2 : nx ≤ 2147483647) (e : Nd) (s : Slot) (hm : Hid ((e, s) ∈ L)) (hk : Hid (e.x.kind = 1)) (at' : Int) (V : Value) (l : List IV) (hll : l.length ≤ 140737488355328) (I : Hid (ItemsIn V l w)) (FC : Hid (∀ x ∈ l, FitC x.1)) (ht : Hid (Tab w)) (r : Int) (hr : r ≠ 0)
    (HR : Hid (uninE nx L.length e.kids.length (chain f 0 e.id).length at' (l.map (·.1)) = r)) :
    Calls Tryd.prog 21 #[.pointer (some ⟨tb, 0, none⟩), .int .i64 e.id, .int .i64 at', V] w fun q w' => q = .returned (.tuple #[.int .i64 0, .int .i64 r]) ∧ Left B tb mb L w f nx w' := by
  obtain ⟨hmem, hem⟩ := h.out.mem hm.out
  have hLn : L.length ≤ 100000 := by rw [h.out.many]; exact hf.out.len
  obtain ⟨ao, cap, rfl, hl, hcc⟩ := I.out.1
  have OF := hid (of_ok h 1 e.id (hf.out.wf _ hem) e s hm (hid (look_mem h.out.graph.map.nd (List.mem_map.2 ⟨_, hm.out, rfl⟩))) hk)
  have UN := hid (unins_any h hf hnx hnx2 hLn e s hm hem at' _ l (by omega) I FC ht r HR)
  have hr' : (r != 0) = true := by simpa using hr
  clear hcc hem hmem HR hLn hr
  go_enter Tryd.func21, Tryd.ntmps21
  go_wp2_with fail
  refine OF.out.mono ?_
  rintro q w1 ⟨rfl, hw1⟩
  rw [hw1]
  clear hw1 OF
  go_wp2_with fail
  refine UN.out.mono ?_
  rintro q w2 ⟨rfl, hb2⟩
  have HB2 := hid hb2
  clear hb2 UN
  go_wp2
  go_ret2
  exact ⟨rfl, Left.same h.out HB2.out⟩
theorem insert_any (h : Hid (TreeIn B tb mb f nx L w)) (hf : Hid (Fine f)) (hnx : 1 ≤ nx) (hnx2 : nx ≤ 2147483647) (hlt : Hid (∀ i ∈ ids f, i < nx)) (id at' : Int) (hw : wfI id) (V : Value) (l : List IV) (hll : l.length ≤ 140737488355328) (HI : Hid (∀ w', Turns [tb] w w' → ItemsIn V l w')) (FC : Hid (∀ x ∈ l, FitC x.1)) (ht : Hid (Tab w)) :
    Calls Tryd.prog 21 #[.pointer (some ⟨tb, 0, none⟩), .int .i64 id, .int .i64 at', V] w fun q w' => q = .returned (.tuple #[.int .i64 (insertF f nx id at' (l.map (·.1))).2.1, .int .i64 (insertF f nx id at' (l.map (·.1))).2.2]) ∧ Left B tb mb L w (insertF f nx id at' (l.map (·.1))).1.1 (insertF f nx id at' (l.map (·.1))).1.2 w' := by
  have I := hid (HI.out w (Turns.of_below (Below.refl _ _)))
  by_cases hi : id ∈ ids f
  · obtain ⟨e, s, m1, m2, rfl⟩ : ∃ e s, (e, s) ∈ L ∧ e ∈ T.ents f 0 ∧ e.id = id := by
      rcases h.out.find id with ⟨q, _⟩ | ⟨e, s, q1, q2, q3, _⟩
      · exact absurd hi q
      · exact ⟨e, s, q1, q2, q3⟩
    have hmany := h.out.many
    rw [insertF_in hf.out.nd m2]
    by_cases q1 : e.x.kind = 1
    · rw [if_neg (not_not_intro q1)]
      obtain ⟨r, hr⟩ : ∃ r, uninE nx (ids f).length e.kids.length (chain f 0 e.id).length at' (l.map (·.1)) = r := ⟨_, rfl⟩
      rw [hr]
      rw [← hmany] at hr
      by_cases q2 : r = 0
      · subst q2
        rw [if_neg (by simp)]
        have ha : 0 ≤ at' := by
          by_cases z : at' < 0
          · have := hr
            unfold uninE at this
            rw [if_pos (Or.inl z)] at this
            cases this
          · omega
        obtain ⟨a, rfl⟩ := Int.eq_ofNat_of_zero_le ha
        refine (insert_ok h hf hnx hnx2 hlt e s (hid m1) (hid q1) a V l hll HI FC ht (hid hr)).mono ?_
        rintro q w1 ⟨rfl, hL⟩
        refine ⟨rfl, ?_⟩
        dsimp only
        rw [Int.toNat_natCast, List.length_map]
        have hfe := forest_ents nx ((chain f 0 e.id).length : Int) (l.map (·.1))
        refine hL.turn ?_ (by rw [root_tops, root_tops, tops_ins, tops_ins])
        refine (ents_ins f 0 e.id a _ hf.out.nd hi).trans ?_
        rw [← hfe.1, ← hfe.2]
        exact (ents_ins f 0 e.id a _ hf.out.nd hi).symm
      · rw [if_pos q2]
        exact insert_bad h hf hnx hnx2 e s (hid m1) (hid q1) at' V l hll I FC ht r q2 (hid hr)
    · rw [if_pos q1]
      exact insert_kind h hf e s (hid m1) q1 at' V l I
  · rw [insertF_out hi]
    exact insert_none h id at' hw hi V l I
end
end N
end Go.Proofs.YtidccohjehegjaaDoor
