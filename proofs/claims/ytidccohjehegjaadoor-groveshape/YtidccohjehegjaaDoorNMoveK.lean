/- The walk of grove's Move. -/
import Derived.Test.YtidccohjehegjaaDoorNMoveFK
import Derived.Test.YtidccohjehegjaaDoorK7
namespace Go.Proofs.YtidccohjehegjaaDoor
open Go.RowKit Go.Shelf
namespace N
open T
section
variable {B mb : Nat} {L : List NS} {w : World}
/-- A node's parent turned. -/
theorem par_graph (h : GraphIn B mb L w) {e : Nd} {s : Slot} (hm : (e, s) ∈ L) (v : Int) : ∃ L', GraphIn B mb L' (w.setCell ⟨s.g, 1, none⟩ (.int .i64 v)) ∧ L'.map (·.1) = mapE e.id (fun q => { q with par := v }) (L.map (·.1)) ∧ idg L' = idg L ∧ allB L' = allB L ∧ Turns (allB L) w (w.setCell ⟨s.g, 1, none⟩ (.int .i64 v)) := by
  have hidl : ((L.map (·.1)).map (·.id)).Nodup := by
    have := h.map.nd
    rw [idg, List.map_map] at this
    rw [List.map_map]
    exact this
  obtain ⟨L1, L2, rfl⟩ := List.append_of_mem hm
  have hn0 := h.nodes _ hm
  have hnd := blks_nodup h hm
  obtain ⟨b1, b2, _⟩ := blks_parts hnd
  dsimp only at hn0 hnd b1 b2
  have oth : ∀ b, b ≠ s.g → (w.setCell ⟨s.g, 1, none⟩ (.int .i64 v)).heap[b]? = w.heap[b]? := fun b hb => Below.heap_setCell _ _ _ _ hb
  have hn' : NodeIn B { e with par := v } s (w.setCell ⟨s.g, 1, none⟩ (.int .i64 v)) := ⟨heap_setCell_same _ _ _ _ _ _ hn0.cell, own_same hn0.attrs (fun b hb => oth b (b1 b hb)), own_same hn0.kids (fun b hb => oth b (b2 b hb))⟩
  have hmem : s.g ∈ allB (L1 ++ (e, s) :: L2) := List.mem_flatMap.2 ⟨(e, s), by simp, mem_blks.2 (Or.inl rfl)⟩
  refine ⟨L1 ++ ({ e with par := v }, s) :: L2, graph_turn h (fun b _ hb => oth b (fun q => hb (mem_blks.2 (Or.inl q)))) hn' (fun b hb => Or.inl hb) hnd (fun b hb => h.ge b (List.mem_cons_of_mem _ (List.mem_flatMap.2 ⟨(e, s), by simp, hb⟩))) rfl rfl, ?_, by simp [idg], by simp only [allB_app, allB_cons], ?_⟩
  · rw [List.map_append, List.map_cons] at hidl ⊢
    rw [List.map_append, List.map_cons, mapE_mid hidl]
  · exact ⟨rfl, rfl, rfl, by simp [World.setCell], fun b _ hq => oth b (fun q => hq (by rw [q]; exact hmem))⟩
theorem entry_of {L L' : List NS} (h : idg L' = idg L) {e : Nd} {s : Slot} (hm : (e, s) ∈ L) : ∃ e' s', (e', s') ∈ L' ∧ e'.id = e.id ∧ s'.g = s.g := by
  have h1 : (e.id, s.g) ∈ idg L' := by rw [h]; exact List.mem_map.2 ⟨_, hm, rfl⟩
  obtain ⟨⟨e', s'⟩, h2, h3⟩ := List.mem_map.1 h1
  simp only [Prod.mk.injEq] at h3
  exact ⟨e', s', h2, h3.1, h3.2⟩
theorem allB_mem {e : Nd} {s : Slot} (hm : (e, s) ∈ L) : s.g ∈ allB L := List.mem_flatMap.2 ⟨(e, s), hm, mem_blks.2 (Or.inl rfl)⟩
end
/-- The nodes behind a move: plain. -/
theorem move_ents {f : F} (hd : (ids f).Nodup) {id p t' : Int} (hp : parF f id = some p) (ht : t' ∈ ids (T.del f id)) (hts : t' ∉ ids (sub f id)) {l2 l3 l4 : List Nd} (a : Nat)
    (h2 : l2.Perm (mapE p (fun e => { e with kids := e.kids.erase id }) (T.ents f 0))) (h3 : l3 = mapE id (fun q => { q with par := t' }) l2) (h4 : l4 = mapE t' (fun q => { q with kids := insL q.kids a [id] }) l3) :
    l3.Perm (T.ents (T.del f id) 0 ++ T.ents (sub f id) t') ∧ l4.Perm (T.ents (ins (T.del f id) t' a (sub f id)) 0) := by
  have hid1 := (par_mem f id p hp).2
  obtain ⟨pre, x, m, k, post, A⟩ := at_of f 0 id hd hid1
  have hsub := A.tree
  have hni : id ∉ ids (T.del f id) := fun q => by
    have := (del_iff hd A id hid1).1 q
    exact this (by rw [hsub]; simp [ids])
  have hdd := del_nodup id hd
  have hsn := (sub_nodup f id hd).1
  have e3 : l3.Perm (T.ents (T.del f id) 0 ++ T.ents (sub f id) t') := by
    rw [h3]
    have h5 := (h2.trans (ents_del f 0 id p hd hp)).map (fun q : Nd => if q.id = id then { q with par := t' } else q)
    have h6 : mapE id (fun q => { q with par := t' }) (T.ents (T.del f id) 0 ++ T.ents (sub f id) p) = T.ents (T.del f id) 0 ++ T.ents (sub f id) t' := by
      rw [mapE_app, mapE_ents hni, hsub]
      rw [hsub] at hsn
      simp only [ids, List.append_nil, List.nodup_cons] at hsn
      simp only [T.ents, List.append_nil]
      rw [mapE_cons, if_pos rfl, mapE_ents hsn.1]
    rw [← h6]
    exact h5
  refine ⟨e3, ?_⟩
  rw [h4]
  have h7 := e3.map (fun q : Nd => if q.id = t' then { q with kids := insL q.kids a [id] } else q)
  refine h7.trans ?_
  have h8 := ents_ins (T.del f id) 0 t' a (sub f id) hdd ht
  have h9 : tops (sub f id) = [id] := by rw [hsub]; simp [tops]
  rw [h9] at h8
  have h10 : mapE t' (fun q => { q with kids := insL q.kids a [id] }) (T.ents (T.del f id) 0 ++ T.ents (sub f id) t') = mapE t' (fun q => { q with kids := insL q.kids a [id] }) (T.ents (T.del f id) 0) ++ T.ents (sub f id) t' := by
    rw [mapE_app, mapE_ents hts]
  show (mapE t' (fun q => { q with kids := insL q.kids a [id] }) (T.ents (T.del f id) 0 ++ T.ents (sub f id) t')).Perm _
  rw [h10]
  exact h8.symm
section
variable {B tb mb : Nat} {f : F} {nx : Int} {L : List NS} {w : World}
set_option maxRecDepth 100000 in
set_option maxHeartbeats 4000000 in
theorem move_ok (h : Hid (TreeIn B tb mb f nx L w)) (hf : Hid (Fine f)) (hone : Hid (∀ i ∈ tops f, i = rootF f)) (e ep : Nd) (s sp : Slot) (hm : Hid ((e, s) ∈ L)) (hmp : Hid ((ep, sp) ∈ L)) (a : Nat) (HR : Hid (unmovE f e ep (a : Int) = 0)) :
    Calls Tryd.prog 23 #[.pointer (some ⟨tb, 0, none⟩), .int .i64 e.id, .int .i64 ep.id, .int .i64 (a : Int)] w fun q w' => q = .returned (.int .i64 0) ∧ Left B tb mb L w (ins (T.del f e.id) ep.id a (sub f e.id)) nx w' := by
  obtain ⟨he, hem⟩ := h.out.mem hm.out
  obtain ⟨hep, hepm⟩ := h.out.mem hmp.out
  have hd := hf.out.nd
  obtain ⟨hnr, hch, hth⟩ : e.id ≠ rootF f ∧ e.id ∉ (chain f 0 ep.id).map (·.id) ∧ (a : Int) ≤ othersE e ep := by
    have hr := HR.out
    unfold unmovE at hr
    by_cases q1 : e.id = rootF f
    · rw [if_pos q1] at hr; cases hr
    · rw [if_neg q1] at hr
      by_cases q2 : ep.x.kind = 2
      · rw [if_pos q2] at hr; cases hr
      · rw [if_neg q2] at hr
        by_cases q3 : e.id ∈ (chain f 0 ep.id).map (·.id)
        · rw [if_pos q3] at hr; cases hr
        · rw [if_neg q3] at hr
          by_cases q4 : (a : Int) < 0 ∨ othersE e ep < (a : Int)
          · rw [if_pos q4] at hr; cases hr
          · exact ⟨q1, q3, by omega⟩
  have hpar := ent_par hd he (fun z => hnr (hone.out _ z))
  have hts : ep.id ∉ ids (sub f e.id) := fun z => hch ((chain_sub_iff f 0 ep.id e.id hd hepm).2 z)
  obtain ⟨pre, x0, m, k', post, A⟩ := at_of f 0 e.id hd hem
  have hto : ep.id ∈ ids (T.del f e.id) := (del_iff hd A ep.id hepm).2 hts
  obtain ⟨c0, _⟩ := h.out.cells
  have k1 := h.out.seen (hf.out.wf _ hem)
  have k2 := h.out.seen (hf.out.wf _ hepm)
  rw [look_mem h.out.graph.map.nd (List.mem_map.2 ⟨_, hm.out, rfl⟩)] at k1
  rw [look_mem h.out.graph.map.nd (List.mem_map.2 ⟨_, hmp.out, rfl⟩)] at k2
  simp only [ptr] at k1 k2
  have HPAR := hid hpar
  have HNR : Hid (e.id ∉ tops f) := hid (fun z => hnr (hone.out _ z))
  have HTS := hid hts
  have HTO := hid hto
  have HTH := hid hth
  have HEM := hid hem
  have HEPM := hid hepm
  have HEP := hid hep
  clear A hch hnr hpar hts hto hth he hep hem hepm hd
  go_enter Tryd.func23, Tryd.ntmps23
  go_wp2
  go_quiet (fail)
  go_wp2_with fail
  refine (unmov_any (hid (h.out.below (below_drewN (Below.refl _ w) _))) hf e ep s sp hm hmp HEM.out HEPM.out (a : Int) 0 HR).mono ?_
  rintro q w2 ⟨rfl, hb⟩
  have HB := hid ((below_drewN (Below.refl w.heap.size w) _).trans hb)
  have T2 := hid (h.out.below HB.out)
  clear hb c0 k1 k2
  go_wp2_with fail
  refine (cut_any T2 hf e.id e.par HPAR).mono ?_
  rintro q w3 ⟨⟨v3, rfl⟩, L2, hc⟩
  obtain ⟨e3, s3, hm3, hi3, hg3⟩ := entry_of hc.same hm.out
  have hn3 := hc.graph.nodes _ hm3
  have z1 := hn3.cells.2.1
  have zf : w3.frozen? ⟨s3.g, 1, none⟩ = false := Lib.frozen_of_heap hn3.cell 1
  dsimp only at z1
  obtain ⟨L3, hG3, hl3, hid3, hall3, ht3⟩ := par_graph hc.graph hm3 ep.id
  have HC := hid hc
  have HM3 := hid hm3
  rw [hg3] at z1 zf hG3 ht3
  rw [hi3] at hl3
  have HG3 := hid hG3
  have HL3 := hid hl3
  have HT3 := hid ht3
  have HI3 := hid hid3
  have HA3 := hid hall3
  obtain ⟨e4, s4, hm4, hi4, hg4⟩ := entry_of (HI3.out.trans HC.out.same) hmp.out
  obtain ⟨ka, kc, hkv⟩ := kv_form (HG3.out.nodes _ hm4)
  have z7 := (HG3.out.nodes _ hm4).cells.2.2.2.2.2.2.2
  dsimp only at hkv z7
  rw [hg4, hkv] at z7
  replace z7 : w3.cell? ⟨sp.g, 7, none⟩ = some (.slice ka e4.kids.length kc) := (World.cell?_setCell_other (a := ⟨s.g, 1, none⟩) (b := ⟨sp.g, 7, none⟩) _ _ (by simp)).symm.trans z7
  have HM4 := hid hm4
  have HI4 := hid hi4
  have HG4 := hid hg4
  have HKV := hid hkv
  clear hn3 hc hm3 hG3 hl3 ht3 hid3 hall3 hg3 hi3 hm4 hi4 hg4 hkv
  go_wp2_with fail
  obtain ⟨W4, hW4⟩ : ∃ W4, w3.setCell ⟨s.g, 1, none⟩ (.int .i64 ep.id) = W4 := ⟨_, rfl⟩
  have hs4 : W4.heap.size = w3.heap.size := by rw [← hW4]; simp [World.setCell]
  rw [hW4] at HG3 HT3 ⊢
  have hA5 := (Below.refl W4.heap.size W4).alloc (Nat.le_refl _) (.cells #[.int .i64 e.id] 3)
  have hN5 := heap_alloc_new W4 (.cells #[.int .i64 e.id] 3)
  obtain ⟨W5, hW5⟩ : ∃ W5, W4.alloc (.cells #[.int .i64 e.id] 3) = W5 := ⟨_, rfl⟩
  have hs5 : W5.heap.size = w3.heap.size + 1 := by rw [← hW5]; simp [hs4]
  rw [hW5] at hA5 hN5 ⊢
  have hg5 := HG3.out.below hA5
  have hrow5 : W5.ownsRow w3.heap.size 3 1 (.slice (some ⟨w3.heap.size, 0, none⟩) 1 1) 1 (encK [e.id]) := ⟨rfl, Or.inr ⟨w3.heap.size, 1, #[.int .i64 e.id], rfl, Nat.le_refl _, by rw [← hs4]; exact hN5, Nat.le_refl _, by decide, rfl, rfl⟩⟩
  have hkr := (hg5.nodes _ HM4.out).kids
  dsimp only at hkr
  rw [HKV.out] at hkr
  have hBw : B ≤ W5.heap.size := by
    have h1 := hg5.ge mb (List.mem_cons_self ..)
    have h2 := hg5.map.lt
    omega
  have hp3 := move_ents hf.out.nd HPAR.out HTO.out HTS.out a HC.out.ents HL3.out rfl
  have hm4' : e4 ∈ T.ents (T.del f e.id) 0 := by
    have h1 : e4 ∈ L3.map (·.1) := List.mem_map.2 ⟨_, HM4.out, rfl⟩
    rcases List.mem_append.1 (hp3.1.mem_iff.1 h1) with q | q
    · exact q
    · exfalso
      refine HTS.out ?_
      rw [← HI4.out, ← ents_ids (sub f e.id) ep.id]
      exact List.mem_map_of_mem q
  have hkl := kids_len (del_nodup e.id hf.out.nd) hm4'
  have hkl2 := (ids_del f e.id).length_le
  have hfl := hf.out.len
  have ha : a ≤ e4.kids.length := by
    obtain ⟨x4, k4, y1, _, y3⟩ := sub_ent _ 0 e4 (del_nodup e.id hf.out.nd) hm4'
    rw [HI4.out] at y1
    have y4 := del_kids hf.out.nd HPAR.out HEP.out y1
    have y5 := HTH.out
    unfold othersE at y5
    rw [y3, y4]
    by_cases z : ep.id = e.par
    · rw [if_pos z]
      rw [if_pos z.symm] at y5
      have := List.length_erase (a := e.id) (l := ep.kids)
      rw [this]
      split <;> omega
    · rw [if_neg z]
      rw [if_neg (fun y => z y.symm)] at y5
      omega
  have SI := hid (sins_any (vs := [e.id]) (V := .slice (some ⟨w3.heap.size, 0, none⟩) 1 1) hkr ha (by simp) hrow5 (fun q hq z => by
    simp only [Value.ownBlock, Option.some.injEq] at hq
    have h1 := hg5.lt
    have h2 : q ∈ blks s4 := mem_blks.2 (Or.inr (Or.inr (by rw [HKV.out]; exact z)))
    have h3 := (HG3.out.nodes _ HM4.out).lt q h2
    omega) (by simp only [List.length_cons, List.length_nil]; omega) hBw)
  clear hkr hBw hkl hkl2 hfl hrow5
  refine SI.out.mono ?_
  rintro q w6 ⟨g, cap, rfl, hr6, hk6, hq6⟩
  simp only [List.length_cons, List.length_nil, Nat.zero_add] at hr6 hk6 hq6 ⊢
  rw [← HKV.out] at hk6 hq6
  have hil : (insL e4.kids a [e.id]).length = e4.kids.length + 1 := insL_len _ _ _ ha
  obtain ⟨hs6, L4, hG4, hL4, hid4, hbl4, ht4⟩ := kids_graph hg5 HM4.out hk6 hil hr6 hq6 (fun q => { q with kids := insL q.kids a [e.id] }) rfl
  rw [HG4.out] at hs6 hG4 ht4
  rw [HI4.out] at hL4
  have hc5 := (hg5.nodes _ HM4.out).cell
  have y7 := (hg5.nodes _ HM4.out).cells.2.2.2.2.2.2.2
  dsimp only at hc5 y7
  rw [HG4.out] at hc5 y7
  rw [HKV.out] at y7
  have x7 : w6.cell? ⟨sp.g, 7, none⟩ = some (.slice ka e4.kids.length kc) := (World.cell?_of_block hs6).trans y7
  have xf : w6.frozen? ⟨sp.g, 7, none⟩ = false := Lib.frozen_of_heap (hs6.trans hc5) 7
  obtain ⟨w7, hw7⟩ : ∃ w7, w6.setCell ⟨sp.g, 7, none⟩ (.slice (some ⟨g, 0, none⟩) (e4.kids.length + 1) cap) = w7 := ⟨_, rfl⟩
  rw [hw7] at hG4 ht4
  have hallB : allB L3 = allB L := HA3.out.trans HC.out.blocks
  have hsgL : s.g ∈ allB L := allB_mem hm.out
  have htb3 : tb < w2.heap.size := lt_of_block T2.out.top
  have htbm : tb ∉ allB L := fun z => h.out.tb0 (List.mem_cons_of_mem _ z)
  have hsz3 := HC.out.turns.size
  have hsz2 := HB.out.size
  have hTB : w7.heap[tb]? = some (.cells #[.map (some mb), .int .i64 (rootF f), .int .i64 nx] 64 (0, 0)) := by
    rw [ht4.block tb (by omega) (by rw [hallB]; exact htbm), hA5.block tb (by omega), HT3.out.block tb (by omega) (by rw [HC.out.blocks]; exact htbm), HC.out.top]
    exact T2.out.top
  have hbw : ∀ b ∈ mb :: allB L4, b ∈ mb :: allB L ∨ w.heap.size ≤ b := by
    intro b hb
    rcases List.mem_cons.1 hb with z | z
    · exact Or.inl (by rw [z]; exact List.mem_cons_self ..)
    · rcases hbl4 b z with y | y
      · rw [hallB] at y
        exact Or.inl (List.mem_cons_of_mem _ y)
      · exact Or.inr (by omega)
  have DN : Hid (Left B tb mb L w (ins (T.del f e.id) ep.id a (sub f e.id)) nx w7) := hid (by
    refine ⟨⟨mb, L4, ⟨hG4, ?_, ?_, h.out.tbB, fun z => ?_⟩, hbw⟩, ?_⟩
    · exact (move_ents hf.out.nd HPAR.out HTO.out HTS.out a HC.out.ents HL3.out hL4).2
    · rw [hTB, root_tops, root_tops, tops_ins, tops_del f e.id hf.out.nd, List.erase_of_not_mem HNR.out]
    · rcases hbw tb z with y | y
      · exact h.out.tb0 y
      · have := lt_of_block h.out.top; omega
    · have t1 : Turns (tb :: mb :: allB L) w w2 := Turns.of_below HB.out
      have t2 := t1.trans HC.out.turns (fun b hb => Or.inl (List.mem_cons_of_mem _ (List.mem_cons_of_mem _ hb)))
      have t3 := t2.trans HT3.out (fun b hb => Or.inl (List.mem_cons_of_mem _ (List.mem_cons_of_mem _ (by rw [HC.out.blocks] at hb; exact hb))))
      have t4 := t3.trans (Turns.of_below (bs := []) hA5) (fun b hb => absurd hb (List.not_mem_nil))
      exact t4.trans ht4 (fun b hb => Or.inl (List.mem_cons_of_mem _ (List.mem_cons_of_mem _ (by rw [hallB] at hb; exact hb)))))
  clear hs6 hG4 hL4 hid4 hbl4 ht4 hc5 y7 hTB hbw hr6 hk6 hq6 hp3 hm4' hg5 hN5 hA5
  go_wp2_with fail
  go_ret
  exact ⟨rfl, DN.out⟩
theorem TreeIn.got (h : TreeIn B tb mb f nx L w) {id : Int} (hi : id ∈ ids f) : ∃ e s, (e, s) ∈ L ∧ e ∈ T.ents f 0 ∧ e.id = id := by
  rcases h.find id with ⟨q, _⟩ | ⟨e, s, q1, q2, q3, _⟩
  · exact absurd hi q
  · exact ⟨e, s, q1, q2, q3⟩
theorem move_any (h : Hid (TreeIn B tb mb f nx L w)) (hf : Hid (Fine f)) (hone : Hid (∀ i ∈ tops f, i = rootF f)) (hk : Hid (∀ e ∈ T.ents f 0, e.x.kind = 1 ∨ e.x.kind = 2)) (id t' at' : Int) (hw : wfI id) (hw2 : wfI t') :
    Calls Tryd.prog 23 #[.pointer (some ⟨tb, 0, none⟩), .int .i64 id, .int .i64 t', .int .i64 at'] w fun q w' => q = .returned (.int .i64 (moveF f id t' at').2) ∧ Left B tb mb L w (moveF f id t' at').1 nx w' := by
  by_cases hi : id ∈ ids f
  · by_cases ht : t' ∈ ids f
    · obtain ⟨e, s, m1, m2, rfl⟩ := h.out.got hi
      obtain ⟨ep, sp, m3, m4, rfl⟩ := h.out.got ht
      rw [moveF_in hf.out.nd hone.out hk.out m2 m4]
      obtain ⟨r, hr⟩ : ∃ r, unmovE f e ep at' = r := ⟨_, rfl⟩
      rw [hr]
      by_cases q : r = 0
      · subst q
        rw [if_neg (by simp)]
        have ha : 0 ≤ at' := by
          by_cases z : at' < 0
          · exfalso
            have := hr
            unfold unmovE at this
            rw [if_pos (Or.inl z)] at this
            split at this
            · cases this
            · split at this
              · cases this
              · split at this <;> cases this
          · omega
        obtain ⟨a, rfl⟩ := Int.eq_ofNat_of_zero_le ha
        exact move_ok h hf hone e ep s sp (hid m1) (hid m3) a (hid hr)
      · rw [if_pos q]
        exact move_bad h hf e ep s sp (hid m1) (hid m3) hi ht at' r (hid hr) q
    · rw [moveF_out (Or.inr ht)]
      exact move_none h id t' at' hw hw2 (Or.inr ht)
  · rw [moveF_out (Or.inl hi)]
    exact move_none h id t' at' hw hw2 (Or.inl hi)
end
end N
end Go.Proofs.YtidccohjehegjaaDoor
