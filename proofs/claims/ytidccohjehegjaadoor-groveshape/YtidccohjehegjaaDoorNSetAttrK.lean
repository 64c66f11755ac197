/- The walk of grove's SetAttr. -/
import Derived.Test.YtidccohjehegjaaDoorNAttrsK
namespace Go.Proofs.YtidccohjehegjaaDoor
open Go.RowKit Go.Shelf
namespace N
open T
theorem encL_set : ∀ (l : List L.Attr) (k : Nat) (nm v : ByteArray) (hk : k < l.length), l[k].1 = nm → encL (l.set k (nm, v)) = (encL l).set (k * 2 + 1) (.string v)
  | a :: l, 0, nm, v, _, h => by
    simp only [List.getElem_cons_zero] at h
    rw [List.set_cons_zero, encL_cons, encL_cons, encA, encA, ← h]
    rfl
  | a :: l, k + 1, nm, v, hk, h => by
    have ih := encL_set l k nm v (by simpa using hk) h
    rw [List.set_cons_succ, encL_cons, encL_cons, ih, show (k + 1) * 2 + 1 = (k * 2 + 1) + 1 + 1 by omega]
    rfl
section
variable {B tb mb : Nat} {f : F} {nx : Int} {L : List NS} {w : World}
set_option maxRecDepth 100000 in
set_option maxHeartbeats 4000000 in
theorem setAttr_any (h : Hid (TreeIn B tb mb f nx L w)) (hf : Hid (Fine f)) (id : Int) (hw : wfI id) (nm v : ByteArray) (hs1 : nm.size ≤ maxLen) (hs2 : v.size ≤ maxLen) (ht : Hid (Tab w)) (ha : Hid (∀ e ∈ T.ents f 0, Rises e.x.attrs ∧ e.x.attrs.length ≤ 20)) (r1 : F) (r2 : Int) (HR : Hid (setAttrF f id nm v = (r1, r2))) :
    Calls Tryd.prog 25 #[.pointer (some ⟨tb, 0, none⟩), .int .i64 id, .string nm, .string v] w fun q w' => q = .returned (.int .i64 r2) ∧ Left B tb mb L w r1 nx w' := by
  rcases h.out.find id with ⟨h1, h2⟩ | ⟨e, s, h1, h2, h3, h4, h5⟩
  · have OF := hid (of_none h 1 id hw (hid h2))
    have hr := HR.out
    unfold setAttrF at hr
    rw [sub_none f id h1] at hr
    simp only [Prod.mk.injEq] at hr
    obtain ⟨rfl, rfl⟩ := hr
    clear h1 h2 HR
    go_enter Tryd.func25, Tryd.ntmps25
    go_wp2_with fail
    refine OF.out.mono ?_
    rintro e w1 ⟨rfl, rfl⟩
    go_wp2
    go_ret
    exact ⟨rfl, Left.same h.out (Below.refl _ _)⟩
  · obtain ⟨x, k, hsub, hex, _⟩ := sub_ent f 0 e hf.out.nd h2
    rw [h3] at hsub
    have hr := HR.out
    unfold setAttrF at hr
    rw [hsub] at hr
    simp only at hr
    have hkx : e.x.kind = x.kind := by rw [hex]; rfl
    have hax : e.x.attrs = x.attrs := by rw [hex]; rfl
    rw [← hkx, ← hax] at hr
    by_cases hk : e.x.kind = 1
    · rw [if_neg (not_not_intro hk)] at hr
      obtain ⟨hrise, hlen⟩ := ha.out e h2
      have OF := hid (of_ok h 1 id hw e s (hid h1) (hid h5) (hid hk))
      have H1 := hid h1
      have H3 := hid h3
      obtain ⟨nb, HNB⟩ : ∃ nb, Hid (G.nameB nm.data.toList = nb) := ⟨_, hid rfl⟩
      have hnp : Go.Proofs.YtidccohjehegjaaDoor.L.nameP nm = nb := HNB.out
      obtain ⟨u, HU⟩ : ∃ u, Hid (P.unfitE v = u) := ⟨_, hid rfl⟩
      rw [hnp, HU.out] at hr
      have HRR := hid hr
      have HRI := hid hrise
      have HLE := hid hlen
      clear h1 h2 h3 h4 h5 hsub hex hkx hax hk hr HR hnp hrise hlen
      go_enter Tryd.func25, Tryd.ntmps25
      go_wp2_with fail
      refine OF.out.mono ?_
      rintro r w1 ⟨rfl, hw1⟩
      rw [hw1]
      clear hw1 OF
      go_wp2_with fail
      refine (name_any nm nb w ht.out hs1 HNB).mono ?_
      rintro r w1 ⟨rfl, hb⟩
      have HB1 := hid hb
      clear hb
      cases nb with
      | false =>
        have hr := HRR.out
        rw [if_pos rfl] at hr
        simp only [Prod.mk.injEq] at hr
        obtain ⟨rfl, rfl⟩ := hr
        clear HRR
        go_wp2
        go_ret
        exact ⟨rfl, Left.same h.out HB1.out⟩
      | true =>
        have hr := HRR.out
        rw [if_neg (by simp)] at hr
        have HR3 := hid hr
        clear hr HRR HNB
        go_wp2_with fail
        refine (N.unfit_any v hs2 (ht.out.below HB1.out)).mono ?_
        rw [HU.out]
        rintro r w2 ⟨rfl, hb⟩
        have HB2 := hid (HB1.out.trans (hb.mono HB1.out.size))
        clear hb HU
        by_cases h0 : u = 0
        · subst h0
          have hr := HR3.out
          rw [if_neg (by simp)] at hr
          have HR4 := hid hr
          have T2 := hid (h.out.below HB2.out)
          have HN2 := hid (T2.out.graph.nodes _ H1.out)
          clear hr HR3
          go_wp2_with fail
          refine (attr_any HN2 nm (by have := HLE.out; omega) HRI).mono ?_
          rintro r w3 ⟨rfl, hb⟩
          have HB3 := hid (HB2.out.trans (hb.mono HB2.out.size))
          have T3 := hid (h.out.below HB3.out)
          clear hb HN2 T2
          obtain ⟨hb3, HHB⟩ : ∃ hb3, Hid (hasT e.x.attrs nm = hb3) := ⟨_, hid rfl⟩
          obtain ⟨k, HK⟩ : ∃ k, Hid (placeT e.x.attrs nm = k) := ⟨_, hid rfl⟩
          rw [HHB.out, HK.out]
          have hr := HR4.out
          rw [HHB.out] at hr
          have HR5 := hid hr
          clear hr HR4
          have hn := T3.out.graph.nodes _ H1.out
          obtain ⟨aa, ac, hav⟩ := slice_of hn.attrs
          dsimp only at hav
          have d6 := hn.cells.2.2.2.2.2.2.1
          dsimp only at d6
          rw [hav] at d6
          have HN := hid hn
          have HAV := hid hav
          clear hn hav
          cases hb3 with
          | true =>
            obtain ⟨hkl, hkn⟩ := has_lt HHB.out
            simp only [HK.out] at hkl hkn
            have hr := HR5.out
            rw [if_neg (by simp)] at hr
            simp only [Prod.mk.injEq] at hr
            obtain ⟨q1, rfl⟩ := hr
            have Q1 := hid q1
            obtain ⟨ga, cur, rfl, hga, hheap, hcap, hmax, hsize, htake⟩ : ∃ ga cur, aa = some ⟨ga, 0, none⟩ ∧ s.av.ownBlock = some ga ∧ w3.heap[ga]? = some (.cells cur 79 (0, 0)) ∧ e.x.attrs.length ≤ ac ∧ ac ≤ maxLen ∧ cur.size = ac * 2 ∧ cur.toList.take (e.x.attrs.length * 2) = encL e.x.attrs := by
              rcases HN.out.attrs.2 with ⟨_, q⟩ | ⟨ga, cap, cur, q, _, y1, y2, y3, y4, y5⟩
              · dsimp only at q; omega
              · dsimp only at q
                rw [HAV.out] at q
                simp only [Value.slice.injEq] at q
                obtain ⟨rfl, -, rfl⟩ := q
                exact ⟨ga, cur, rfl, by rw [HAV.out]; rfl, y1, y2, y3, y4, y5⟩
            have hcz : k * 2 + 1 < cur.size := by omega
            have dA : w3.cell? ⟨ga, k * 2 + 1, none⟩ = some cur[k * 2 + 1] := by rw [Lib.cell_of_heap hheap, Array.getElem?_eq_getElem hcz]
            have fA : w3.frozen? ⟨ga, k * 2 + 1, none⟩ = false := Lib.frozen_of_heap hheap _
            have hnd := blks_nodup T3.out.graph H1.out
            obtain ⟨b1, _, _⟩ := blks_parts hnd
            have hgs : ga ≠ s.g := b1 ga hga
            have hset := encL_set e.x.attrs k nm v hkl hkn
            obtain ⟨L', hG', hL', hbl', ht'⟩ := attrs_turn (X' := w3.setCell ⟨ga, k * 2 + 1, none⟩ (.string v)) (V := s.av) (A := e.x.attrs.set k (nm, v)) T3.out.graph H1.out ((Below.heap_setCell _ _ _ _ (Ne.symm hgs)).trans HN.out.cell)
              ⟨by rw [encL_length], Or.inr ⟨ga, ac, _, by rw [HAV.out, List.length_set], (own_lt HN.out.attrs hga).1, heap_setCell_same _ _ _ _ _ _ hheap, by rw [List.length_set]; exact hcap, hmax, by rw [Array.size_setIfInBounds]; exact hsize, by rw [List.length_set, Array.toList_setIfInBounds, List.take_set, htake, hset]⟩⟩
              (fun b _ h1 h2 => Below.heap_setCell _ _ _ _ (fun q => h2 (by rw [q]; exact hga))) (fun b hb => Or.inl hb) ⟨rfl, rfl, rfl, by simp [World.setCell]⟩
              (fun q => { q with x := { q.x with attrs := withT q.x.attrs nm v } }) (by rw [withT, HHB.out, if_pos rfl, HK.out])
            have DN : Hid (Left B tb mb L w r1 nx (w3.setCell ⟨ga, k * 2 + 1, none⟩ (.string v))) := hid (by
              rw [← Q1.out, ← H3.out]
              exact Left.item h.out hf.out.nd HB3.out (fun x => { x with attrs := withT x.attrs nm v }) (fun _ => rfl) hG' hL' hbl' ht')
            have hki : (k : Int) < (e.x.attrs.length : Int) := by omega
            clear hG' hL' hbl' ht' hset hnd b1 hheap htake hcap hmax hsize hkn q1 HR5 hga hgs
            go_wp2
            go_ret
            exact ⟨rfl, DN.out⟩
          | false =>
            have hr := HR5.out
            by_cases h20 : 20 ≤ e.x.attrs.length
            · rw [if_pos ⟨rfl, h20⟩] at hr
              simp only [Prod.mk.injEq] at hr
              obtain ⟨rfl, rfl⟩ := hr
              have h20' : (20 : Int) ≤ (e.x.attrs.length : Int) := by omega
              clear HR5
              go_wp2
              go_ret
              exact ⟨rfl, Left.same h.out HB3.out⟩
            · rw [if_neg (fun q => h20 q.2)] at hr
              simp only [Prod.mk.injEq] at hr
              obtain ⟨q1, rfl⟩ := hr
              have Q1 := hid q1
              have h20' : ¬ (20 : Int) ≤ (e.x.attrs.length : Int) := by omega
              clear HR5 q1
              go_wp2_with fail
              have hA4 := (Below.refl w3.heap.size w3).alloc (Nat.le_refl _) (.cells #[.string nm, .string v] 79)
              have hN4 := heap_alloc_new w3 (.cells #[.string nm, .string v] 79)
              obtain ⟨W4, hW4⟩ : ∃ W4, w3.alloc (.cells #[.string nm, .string v] 79) = W4 := ⟨_, rfl⟩
              have hs4 : W4.heap.size = w3.heap.size + 1 := by rw [← hW4]; simp
              rw [hW4] at hA4 hN4 ⊢
              have hg4 := T3.out.graph.below hA4
              have hn4 := hg4.nodes _ H1.out
              have hrow4 := hn4.attrs
              dsimp only at hrow4
              rw [HAV.out] at hrow4
              have hkl : k ≤ e.x.attrs.length := by rw [← HK.out]; exact place_le _ _
              have hBw : B ≤ W4.heap.size := by
                have h1 := hg4.ge mb (List.mem_cons_self ..)
                have h2 := hg4.map.lt
                omega
              have AI := hid (ains_any (nm, v) hrow4 hkl hN4 (fun q => by
                have h1 : w3.heap.size ∈ blks s := mem_blks.2 (Or.inr (Or.inl (by rw [HAV.out]; exact q)))
                have h2 := HN.out.lt _ h1
                omega) (by omega) hBw)
              refine AI.out.mono ?_
              rintro r w6 ⟨g, cap, rfl, hr6, hk6, hq6⟩
              rw [← HAV.out] at hk6 hq6
              have hsgl := lt_of_block hn4.cell
              have hnd := blks_nodup hg4 H1.out
              obtain ⟨b1, _, _⟩ := blks_parts hnd
              dsimp only at hsgl b1
              have hs6 : w6.heap[s.g]? = W4.heap[s.g]? := hk6.block s.g hsgl (fun q => b1 s.g q.symm rfl)
              have hc6 := hs6.trans hn4.cell
              have d6' : w6.cell? ⟨s.g, 6, none⟩ = some (.slice aa e.x.attrs.length ac) := by
                rw [World.cell?_of_block hs6]
                have := hn4.cells.2.2.2.2.2.2.1
                dsimp only at this
                rw [HAV.out] at this
                exact this
              have f6 : w6.frozen? ⟨s.g, 6, none⟩ = false := Lib.frozen_of_heap hc6 6
              have hil : (insT e.x.attrs k (nm, v)).length = e.x.attrs.length + 1 := insT_len _ _ _ hkl
              have hgs : g ≠ s.g := by
                rcases hq6 with q | q
                · exact b1 g q
                · omega
              obtain ⟨L', hG', hL', hbl', ht'⟩ := attrs_turn (X' := w6.setCell ⟨s.g, 6, none⟩ (.slice (some ⟨g, 0, none⟩) (e.x.attrs.length + 1) cap)) (V := .slice (some ⟨g, 0, none⟩) (e.x.attrs.length + 1) cap) (A := insT e.x.attrs k (nm, v)) hg4 H1.out (heap_setCell_same _ _ _ _ _ _ hc6)
                (by rw [hil]; exact own_same hr6 (fun b hb => Below.heap_setCell _ _ _ _ (by simp only [Value.ownBlock, Option.some.injEq] at hb; rw [← hb]; exact hgs)))
                (fun b hb h1 h2 => (Below.heap_setCell _ _ _ _ h1).trans (hk6.block b hb (fun q => h2 q.symm))) (fun b hb => by
                  simp only [Value.ownBlock, Option.some.injEq] at hb
                  rw [← hb]
                  exact hq6) ⟨hk6.os, hk6.tape, hk6.output, by simpa [World.setCell] using hk6.size⟩
                (fun q => { q with x := { q.x with attrs := withT q.x.attrs nm v } }) (by rw [withT, HHB.out, if_neg (by simp), HK.out])
              have DN : Hid (Left B tb mb L w r1 nx (w6.setCell ⟨s.g, 6, none⟩ (.slice (some ⟨g, 0, none⟩) (e.x.attrs.length + 1) cap))) := hid (by
                rw [← Q1.out, ← H3.out]
                exact Left.item h.out hf.out.nd (HB3.out.trans (hA4.mono HB3.out.size)) (fun x => { x with attrs := withT x.attrs nm v }) (fun _ => rfl) hG' hL' hbl' ht')
              clear hG' hL' hbl' ht' hgs hil hc6 hs6 hnd b1 hsgl hr6 hk6 hq6 hBw hkl hrow4 hn4 hg4 hN4 hA4 AI
              go_wp2
              go_ret
              exact ⟨rfl, DN.out⟩
        · have h0' : (u != 0) = true := by simpa using h0
          have hr := HR3.out
          rw [if_pos h0] at hr
          simp only [Prod.mk.injEq] at hr
          obtain ⟨rfl, rfl⟩ := hr
          clear h0
          go_wp2
          go_ret
          exact ⟨rfl, Left.same h.out HB2.out⟩
    · rw [if_pos hk] at hr
      simp only [Prod.mk.injEq] at hr
      obtain ⟨rfl, rfl⟩ := hr
      have OF := hid (of_kind h 1 id hw e s (hid h1) (hid h5) hk)
      clear h1 h2 h3 h4 h5 hsub hex hkx hk HR hax
      go_enter Tryd.func25, Tryd.ntmps25
      go_wp2_with fail
      refine OF.out.mono ?_
      rintro r w1 ⟨rfl, rfl⟩
      go_wp2
      go_ret
      exact ⟨rfl, Left.same h.out (Below.refl _ _)⟩
set_option maxRecDepth 100000 in
set_option maxHeartbeats 4000000 in
theorem delAttr_any (h : Hid (TreeIn B tb mb f nx L w)) (hf : Hid (Fine f)) (id : Int) (hw : wfI id) (nm : ByteArray) (ha : Hid (∀ e ∈ T.ents f 0, Rises e.x.attrs ∧ e.x.attrs.length ≤ 20)) (r1 : F) (r2 : Int) (HR : Hid (delAttrF f id nm = (r1, r2))) :
    Calls Tryd.prog 26 #[.pointer (some ⟨tb, 0, none⟩), .int .i64 id, .string nm] w fun q w' => q = .returned (.int .i64 r2) ∧ Left B tb mb L w r1 nx w' := by
  rcases h.out.find id with ⟨h1, h2⟩ | ⟨e, s, h1, h2, h3, h4, h5⟩
  · have OF := hid (of_none h 1 id hw (hid h2))
    have hr := HR.out
    unfold delAttrF at hr
    rw [sub_none f id h1] at hr
    simp only [Prod.mk.injEq] at hr
    obtain ⟨rfl, rfl⟩ := hr
    clear h1 h2 HR
    go_enter Tryd.func26, Tryd.ntmps26
    go_wp2_with fail
    refine OF.out.mono ?_
    rintro e w1 ⟨rfl, rfl⟩
    go_wp2
    go_ret
    exact ⟨rfl, Left.same h.out (Below.refl _ _)⟩
  · obtain ⟨x, k, hsub, hex, _⟩ := sub_ent f 0 e hf.out.nd h2
    rw [h3] at hsub
    have hr := HR.out
    unfold delAttrF at hr
    rw [hsub] at hr
    simp only at hr
    have hkx : e.x.kind = x.kind := by rw [hex]; rfl
    have hax : e.x.attrs = x.attrs := by rw [hex]; rfl
    rw [← hkx, ← hax] at hr
    by_cases hk : e.x.kind = 1
    · rw [if_neg (not_not_intro hk)] at hr
      obtain ⟨hrise, hlen⟩ := ha.out e h2
      have OF := hid (of_ok h 1 id hw e s (hid h1) (hid h5) (hid hk))
      have H1 := hid h1
      have H3 := hid h3
      have HRR := hid hr
      have HRI := hid hrise
      have HLE := hid hlen
      clear h1 h2 h3 h4 h5 hsub hex hkx hax hk hr HR hrise hlen
      go_enter Tryd.func26, Tryd.ntmps26
      go_wp2_with fail
      refine OF.out.mono ?_
      rintro r w1 ⟨rfl, hw1⟩
      rw [hw1]
      clear hw1 OF
      have HN2 := hid (h.out.graph.nodes _ H1.out)
      go_wp2_with fail
      refine (attr_any HN2 nm (by have := HLE.out; omega) HRI).mono ?_
      rintro r w3 ⟨rfl, hb⟩
      have HB3 := hid hb
      have T3 := hid (h.out.below hb)
      clear hb HN2
      obtain ⟨hb3, HHB⟩ : ∃ hb3, Hid (hasT e.x.attrs nm = hb3) := ⟨_, hid rfl⟩
      obtain ⟨k, HK⟩ : ∃ k, Hid (placeT e.x.attrs nm = k) := ⟨_, hid rfl⟩
      rw [HHB.out, HK.out]
      have hr := HRR.out
      rw [HHB.out] at hr
      have HR5 := hid hr
      clear hr HRR
      have hn := T3.out.graph.nodes _ H1.out
      obtain ⟨aa, ac, hav⟩ := slice_of hn.attrs
      dsimp only at hav
      have d6 := hn.cells.2.2.2.2.2.2.1
      dsimp only at d6
      rw [hav] at d6
      have HN := hid hn
      have HAV := hid hav
      clear hn hav
      cases hb3 with
      | false =>
        have hr := HR5.out
        rw [if_pos rfl] at hr
        simp only [Prod.mk.injEq] at hr
        obtain ⟨rfl, rfl⟩ := hr
        clear HR5
        go_wp2
        go_ret
        exact ⟨rfl, Left.same h.out HB3.out⟩
      | true =>
        obtain ⟨hkl, _⟩ := has_lt HHB.out
        simp only [HK.out] at hkl
        have hr := HR5.out
        rw [if_neg (by simp)] at hr
        simp only [Prod.mk.injEq] at hr
        obtain ⟨q1, rfl⟩ := hr
        have Q1 := hid q1
        have hrow3 := HN.out.attrs
        dsimp only at hrow3
        rw [HAV.out] at hrow3
        have AD := hid (adel_any (i := k) hrow3 hkl)
        have hki : (k : Int) + 1 ≤ 9223372036854775807 := by have := HLE.out; omega
        have HKL := hid hkl
        clear HR5 q1 hrow3 hkl
        go_wp2_with fail
        refine AD.out.mono ?_
        rintro r w6 ⟨rfl, hr6, hk6⟩
        have hkl := HKL.out
        rw [← HAV.out] at hk6
        have hn4 := HN.out
        have hsgl := lt_of_block hn4.cell
        have hnd := blks_nodup T3.out.graph H1.out
        obtain ⟨b1, _, _⟩ := blks_parts hnd
        dsimp only at hsgl b1
        have hs6 : w6.heap[s.g]? = w3.heap[s.g]? := hk6.block s.g hsgl (fun q => b1 s.g q.symm rfl)
        have hc6 := hs6.trans hn4.cell
        have d6' : w6.cell? ⟨s.g, 6, none⟩ = some (.slice aa e.x.attrs.length ac) := (World.cell?_of_block hs6).trans d6
        have f6 : w6.frozen? ⟨s.g, 6, none⟩ = false := Lib.frozen_of_heap hc6 6
        have hil : (delT e.x.attrs k).length = e.x.attrs.length - 1 := delT_len _ _ hkl
        have hob : ∀ b, (Value.slice aa (e.x.attrs.length - 1) ac).ownBlock = some b → s.av.ownBlock = some b := fun b hb => by rw [HAV.out]; cases aa <;> exact hb
        obtain ⟨L', hG', hL', hbl', ht'⟩ := attrs_turn (X' := w6.setCell ⟨s.g, 6, none⟩ (.slice aa (e.x.attrs.length - 1) ac)) (V := .slice aa (e.x.attrs.length - 1) ac) (A := delT e.x.attrs k) T3.out.graph H1.out (heap_setCell_same _ _ _ _ _ _ hc6)
          (by rw [hil]; exact own_same hr6 (fun b hb => Below.heap_setCell _ _ _ _ (b1 b (hob b hb))))
          (fun b hb h1 h2 => (Below.heap_setCell _ _ _ _ h1).trans (hk6.block b hb (fun q => h2 q.symm))) (fun b hb => Or.inl (hob b hb)) ⟨hk6.os, hk6.tape, hk6.output, by simpa [World.setCell] using hk6.size⟩
          (fun q => { q with x := { q.x with attrs := delT q.x.attrs (placeT q.x.attrs nm) } }) (by rw [HK.out])
        have DN : Hid (Left B tb mb L w r1 nx (w6.setCell ⟨s.g, 6, none⟩ (.slice aa (e.x.attrs.length - 1) ac))) := hid (by
          rw [← Q1.out, ← H3.out]
          exact Left.item h.out hf.out.nd HB3.out (fun x => { x with attrs := delT x.attrs (placeT x.attrs nm) }) (fun _ => rfl) hG' hL' hbl' ht')
        clear hG' hL' hbl' ht' hob hil hc6 hs6 hnd b1 hsgl hr6 hk6 hn4 AD
        go_wp2
        go_ret
        exact ⟨rfl, DN.out⟩
    · rw [if_pos hk] at hr
      simp only [Prod.mk.injEq] at hr
      obtain ⟨rfl, rfl⟩ := hr
      have OF := hid (of_kind h 1 id hw e s (hid h1) (hid h5) hk)
      clear h1 h2 h3 h4 h5 hsub hex hkx hk HR hax
      go_enter Tryd.func26, Tryd.ntmps26
      go_wp2_with fail
      refine OF.out.mono ?_
      rintro r w1 ⟨rfl, rfl⟩
      go_wp2
      go_ret
      exact ⟨rfl, Left.same h.out (Below.refl _ _)⟩
end
end N
end Go.Proofs.YtidccohjehegjaaDoor
