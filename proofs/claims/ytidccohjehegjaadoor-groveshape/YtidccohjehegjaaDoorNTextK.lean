/- The walks of grove's unfit and SetText; what a call on a tree leaves. -/
import Derived.Test.YtidccohjehegjaaDoorK4
import Derived.Test.YtidccohjehegjaaDoorPCheckK
namespace Go.Proofs.YtidccohjehegjaaDoor
open Go.RowKit Go.Shelf
namespace N
open T
/-- All that was there stays, but some blocks. -/
structure Turns (bs : List Nat) (w w' : World) : Prop where
  os : w'.os = w.os
  tape : w'.tape = w.tape
  output : w'.output = w.output
  size : w.heap.size ≤ w'.heap.size
  block : ∀ b, b < w.heap.size → b ∉ bs → w'.heap[b]? = w.heap[b]?
theorem Turns.of_below {bs : List Nat} {w w' : World} (h : Below w.heap.size w w') : Turns bs w w' := ⟨h.os, h.tape, h.output, h.size, fun b hb _ => h.block b hb⟩
theorem Turns.below {bs : List Nat} {w w' : World} {B : Nat} (h : Turns bs w w') (hB : ∀ b ∈ bs, B ≤ b) (hs : B ≤ w.heap.size) : Below B w w' := ⟨h.os, h.tape, h.output, h.size, fun b hb => h.block b (by omega) (fun q => by have := hB b q; omega)⟩
/-- What a call on a tree leaves: a tree, laid where it was, or in new blocks. -/
structure Left (B tb mb : Nat) (L : List NS) (w : World) (f' : F) (nx' : Int) (w' : World) : Prop where
  tree : ∃ mb' L', TreeIn B tb mb' f' nx' L' w' ∧ ∀ b ∈ mb' :: allB L', b ∈ mb :: allB L ∨ w.heap.size ≤ b
  turns : Turns (tb :: mb :: allB L) w w'
theorem Left.same {B tb mb : Nat} {f : F} {nx : Int} {L : List NS} {w w' : World} (h : TreeIn B tb mb f nx L w) (hb : Below w.heap.size w w') : Left B tb mb L w f nx w' := ⟨⟨mb, L, h.below hb, fun _ hq => Or.inl hq⟩, Turns.of_below hb⟩
theorem root_tops (f : F) : rootF f = (tops f).headD 0 := by
  cases f with
  | none => simp [rootF, tops]
  | some n => obtain ⟨i, x, k, s⟩ := n; simp [rootF, tops]
/-- A node's item turned, in a tree in memory. -/
theorem tree_upd {B tb mb : Nat} {f : F} {nx : Int} {L1 L2 : List NS} {e : Nd} {s s' : Slot} {w w' : World} (h : TreeIn B tb mb f nx (L1 ++ (e, s) :: L2) w) (hd : (ids f).Nodup) (u : P.Itm → P.Itm) (hu : ∀ y, atL (u y) 0 = u (atL y 0))
    (hg : GraphIn B mb (L1 ++ ({ e with x := u e.x }, s') :: L2) w') (ht : w'.heap[tb]? = w.heap[tb]?) (htb : tb ∉ mb :: allB (L1 ++ ({ e with x := u e.x }, s') :: L2)) : TreeIn B tb mb (upd f e.id u) nx (L1 ++ ({ e with x := u e.x }, s') :: L2) w' := by
  refine ⟨hg, ?_, ?_, h.tbB, htb⟩
  · rw [ents_upd f 0 e.id u hu hd]
    have h1 := h.ents.map (fun q : Nd => if q.id = e.id then { q with x := u q.x } else q)
    have hn := h.graph.map.nd
    have hA : e.id ∉ (L1.map (·.1)).map (·.id) ∧ e.id ∉ (L2.map (·.1)).map (·.id) := by
      simp only [idg, List.map_append, List.map_cons, List.map_map] at hn
      rw [List.nodup_append] at hn
      obtain ⟨n1, n2, n3⟩ := hn
      rw [List.nodup_cons] at n2
      refine ⟨fun q => ?_, fun q => ?_⟩
      · simp only [List.map_map, List.mem_map, Function.comp_apply] at q
        obtain ⟨p, hp, hq⟩ := q
        exact n3 p.1.id (List.mem_map.2 ⟨p, hp, rfl⟩) e.id (List.mem_cons_self ..) hq
      · simp only [List.map_map, List.mem_map, Function.comp_apply] at q
        obtain ⟨p, hp, hq⟩ := q
        exact n2.1 (List.mem_map.2 ⟨p, hp, hq⟩)
    have e1 : mapE e.id (fun q => { q with x := u q.x }) ((L1 ++ (e, s) :: L2).map (·.1)) = (L1 ++ ({ e with x := u e.x }, s') :: L2).map (·.1) := by
      rw [List.map_append, List.map_cons, mapE_app, mapE_none hA.1, mapE_cons, if_pos rfl, mapE_none hA.2, List.map_append, List.map_cons]
    rw [← e1]
    exact h1
  · rw [ht, h.top, root_tops, root_tops, (upd_ids f e.id u).2]
section
variable {B tb mb : Nat} {f : F} {nx : Int} {L : List NS} {w : World}
set_option maxRecDepth 100000 in
set_option maxHeartbeats 1000000 in
theorem unfit_any (s : ByteArray) (hs : s.size ≤ maxLen) (ht : Tab w) : Calls Tryd.prog 41 #[.string s] w fun e w' => e = .returned (.int .i64 (P.unfitE s)) ∧ Below w.heap.size w w' := by
  obtain ⟨c, HC⟩ : ∃ c, Hid (G.countZ s.data.toList = c) := ⟨_, hid rfl⟩
  obtain ⟨r, HR⟩ : ∃ r, Hid (P.unfitE s = r) := ⟨_, hid rfl⟩
  rw [HR.out]
  have HR2 := HR.out
  unfold P.unfitE at HR2
  rw [HC.out] at HR2
  clear HR
  go_enter Tryd.func41, Tryd.ntmps41
  go_wp2_with fail
  refine (count_any s c w ht hs HC).mono ?_
  rintro e w1 ⟨rfl, hb⟩
  have HB := hid hb
  clear hb HC
  by_cases h1 : c < 0
  · rw [if_pos h1] at HR2
    subst HR2
    go_wp2
    go_ret
    exact ⟨rfl, HB.out⟩
  · rw [if_neg h1] at HR2
    by_cases h2 : 1500 < s.size
    · rw [if_pos h2] at HR2
      subst HR2
      have h2' : (1500 : Int) < (s.size : Int) := by omega
      go_wp2
      go_ret
      exact ⟨rfl, HB.out⟩
    · rw [if_neg h2] at HR2
      subst HR2
      have h2' : ¬ (1500 : Int) < (s.size : Int) := by omega
      go_wp2
      go_ret
      exact ⟨rfl, HB.out⟩
/-- What SetText does to a forest. -/
def setTextF (f : F) (id : Int) (t : ByteArray) : F × Int := match sub f id with
  | none => (f, 60)
  | some n => if n.x.kind ≠ 2 then (f, 68) else if P.unfitE t ≠ 0 then (f, P.unfitE t) else (upd f id fun x => { x with text := t }, 0)
theorem sub_ent : ∀ (f : F) (q : Int) (e : Nd), (ids f).Nodup → e ∈ T.ents f q → ∃ x k, sub f e.id = some ⟨e.id, x, k, none⟩ ∧ e.x = atL x 0 ∧ e.kids = tops k
  | none, _, _, _, h => by simp [T.ents] at h
  | some ⟨i, x, k, s⟩, q, e, hd, h => by
    obtain ⟨d1, d2, d3, d4, d5⟩ := nodup_parts hd
    rw [T.ents] at h
    simp only [List.mem_cons, List.mem_append] at h
    rcases h with h | h | h
    · subst h
      exact ⟨x, k, by simp [sub], rfl, rfl⟩
    · have hk : e.id ∈ ids k := by rw [← ents_ids k i]; exact List.mem_map_of_mem h
      have hi : i ≠ e.id := fun z => d1 (by rw [z]; exact hk)
      rw [sub_k hi d3 hk]
      exact sub_ent k i e d3 h
    · have hs : e.id ∈ ids s := by rw [← ents_ids s q]; exact List.mem_map_of_mem h
      have hk : e.id ∉ ids k := fun z => d5 _ z hs
      have hi : i ≠ e.id := fun z => d2 (by rw [z]; exact hs)
      rw [sub_s hi hk]
      exact sub_ent s q e d4 h
set_option maxRecDepth 100000 in
set_option maxHeartbeats 4000000 in
theorem setText_any (h : Hid (TreeIn B tb mb f nx L w)) (hd : Hid ((ids f).Nodup)) (id : Int) (hw : wfI id) (t : ByteArray) (hs : t.size ≤ maxLen) (ht : Hid (Tab w)) (r1 : F) (r2 : Int) (HR : Hid (setTextF f id t = (r1, r2))) :
    Calls Tryd.prog 27 #[.pointer (some ⟨tb, 0, none⟩), .int .i64 id, .string t] w fun e w' => e = .returned (.int .i64 r2) ∧ Left B tb mb L w r1 nx w' := by
  rcases h.out.find id with ⟨h1, h2⟩ | ⟨e, s, h1, h2, h3, h4, h5⟩
  · have OF := hid (of_none h 2 id hw (hid h2))
    have hr := HR.out
    unfold setTextF at hr
    rw [sub_none f id h1] at hr
    simp only [Prod.mk.injEq] at hr
    obtain ⟨rfl, rfl⟩ := hr
    clear h1 h2 HR
    go_enter Tryd.func27, Tryd.ntmps27
    go_wp2_with fail
    refine OF.out.mono ?_
    rintro e w1 ⟨rfl, rfl⟩
    go_wp2
    go_ret
    exact ⟨rfl, Left.same h.out (Below.refl _ _)⟩
  · obtain ⟨x, k, hsub, hex, _⟩ := sub_ent f 0 e hd.out h2
    rw [h3] at hsub
    have hr := HR.out
    unfold setTextF at hr
    rw [hsub] at hr
    simp only at hr
    have hkx : e.x.kind = x.kind := by rw [hex]; rfl
    rw [← hkx] at hr
    by_cases hk : e.x.kind = 2
    · rw [if_neg (by simpa using hk)] at hr
      have OF := hid (of_ok h 2 id hw e s (hid h1) (hid h5) (hid hk))
      have UF := hid (unfit_any t hs ht.out)
      have H1 := hid h1
      have H3 := hid h3
      obtain ⟨u, HU⟩ : ∃ u, Hid (P.unfitE t = u) := ⟨_, hid rfl⟩
      rw [HU.out] at hr UF
      have HRR := hid hr
      clear h1 h2 h3 h4 h5 hsub hex hkx hk hr HR
      go_enter Tryd.func27, Tryd.ntmps27
      go_wp2_with fail
      refine OF.out.mono ?_
      rintro r w1 ⟨rfl, hw1⟩
      rw [hw1]
      clear hw1
      go_wp2_with fail
      refine UF.out.mono ?_
      rintro r w2 ⟨rfl, hb⟩
      have HB := hid hb
      clear hb
      by_cases h0 : u = 0
      · subst h0
        have hr := HRR.out
        rw [if_neg (by simp)] at hr
        simp only [Prod.mk.injEq] at hr
        obtain ⟨q1, rfl⟩ := hr
        have Q1 := hid q1
        have T2 := hid (h.out.below HB.out)
        have hn := T2.out.graph.nodes _ H1.out
        obtain ⟨d0, d1, d2, d3, d4, d5, d6, d7⟩ := hn.cells
        have fz : w2.frozen? ⟨s.g, 5, none⟩ = false := Lib.frozen_of_heap hn.cell 5
        dsimp only at d5
        have DN : Hid (Left B tb mb L w r1 nx (w2.setCell ⟨s.g, 5, none⟩ (.string t))) := hid (by
          obtain ⟨L1, L2, rfl⟩ := List.append_of_mem H1.out
          have hg0 := T2.out.graph
          have hnd := blks_nodup hg0 H1.out
          dsimp only at hnd hn
          obtain ⟨b1, b2, b3⟩ := blks_parts hnd
          have oth : ∀ b, b ≠ s.g → (w2.setCell ⟨s.g, 5, none⟩ (.string t)).heap[b]? = w2.heap[b]? := fun b hb => Below.heap_setCell _ _ _ _ hb
          have hn' : NodeIn B { e with x := { e.x with text := t } } s (w2.setCell ⟨s.g, 5, none⟩ (.string t)) := ⟨heap_setCell_same _ _ _ _ _ _ hn.cell, own_same hn.attrs (fun q hq => oth q (b1 q hq)), own_same hn.kids (fun q hq => oth q (b2 q hq))⟩
          have hgt := graph_turn hg0 (e' := { e with x := { e.x with text := t } }) (s' := s) (fun b _ hb => oth b (fun q => hb (mem_blks.2 (Or.inl q)))) hn' (fun b hb => Or.inl hb) hnd (fun b hb => hg0.ge b (List.mem_cons_of_mem _ (List.mem_flatMap.2 ⟨(e, s), by simp, hb⟩))) rfl rfl
          have htb : tb ≠ s.g := fun q => T2.out.tb0 (by rw [q]; exact List.mem_cons_of_mem _ (List.mem_flatMap.2 ⟨(e, s), by simp, mem_blks.2 (Or.inl rfl)⟩))
          have hall : allB (L1 ++ ({ e with x := { e.x with text := t } }, s) :: L2) = allB (L1 ++ (e, s) :: L2) := by simp only [allB_app, allB_cons]
          have ht2 := tree_upd T2.out hd.out (fun x => { x with text := t }) (fun _ => rfl) hgt (oth tb htb) (by rw [hall]; exact T2.out.tb0)
          rw [H3.out, Q1.out] at ht2
          refine ⟨⟨mb, _, ht2, fun b hb => Or.inl (by simp only [allB_app, allB_cons] at hb ⊢; exact hb)⟩, HB.out.os, HB.out.tape, HB.out.output, by simpa [World.setCell] using HB.out.size, fun b hb hq => ?_⟩
          rw [oth b (fun q => hq (by rw [q]; exact List.mem_cons_of_mem _ (List.mem_cons_of_mem _ (List.mem_flatMap.2 ⟨(e, s), by simp, mem_blks.2 (Or.inl rfl)⟩))))]
          exact HB.out.block b hb)
        clear hn d0 d1 d2 d3 d4 d6 d7 q1
        go_wp2
        go_ret
        exact ⟨rfl, DN.out⟩
      · have h0' : (u != 0) = true := by simpa using h0
        have hr := HRR.out
        rw [if_pos h0] at hr
        simp only [Prod.mk.injEq] at hr
        obtain ⟨rfl, rfl⟩ := hr
        clear h0
        go_wp2
        go_ret
        exact ⟨rfl, Left.same h.out HB.out⟩
    · rw [if_pos hk] at hr
      simp only [Prod.mk.injEq] at hr
      obtain ⟨rfl, rfl⟩ := hr
      have OF := hid (of_kind h 2 id hw e s (hid h1) (hid h5) hk)
      clear h1 h2 h3 h4 h5 hsub hex hkx hk HR
      go_enter Tryd.func27, Tryd.ntmps27
      go_wp2_with fail
      refine OF.out.mono ?_
      rintro r w1 ⟨rfl, rfl⟩
      go_wp2
      go_ret
      exact ⟨rfl, Left.same h.out (Below.refl _ _)⟩
end
end N
end Go.Proofs.YtidccohjehegjaaDoor
