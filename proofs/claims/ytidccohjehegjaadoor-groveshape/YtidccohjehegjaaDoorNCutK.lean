/- The walk of grove's cut: a node taken from its parent's kids. -/
import Derived.Test.YtidccohjehegjaaDoorNShelfK
import Derived.Test.YtidccohjehegjaaDoorK11
import Derived.Test.YtidccohjehegjaaDoorNTextK
import Derived.Test.YtidccohjehegjaaDoorK4
namespace Go.Proofs.YtidccohjehegjaaDoor
open Go.RowKit Go.Shelf Go.Sort
namespace N
open T
/-- Where a number stands first. -/
theorem idxOf_at (l : List Int) (x : Int) (h : x ∈ l) : Lib.idxOf l x = (l.idxOf x : Int) ∧ l.idxOf x < l.length := by
  have hlt : l.idxOf x < l.length := List.idxOf_lt_length_iff.2 h
  refine ⟨?_, hlt⟩
  unfold Lib.idxOf
  rw [Lib.idxFrom_hit x l (l.idxOf x) 0 hlt ?_ ?_, Nat.zero_add]
  · rw [List.getD_eq_getElem?_getD, List.getElem?_eq_getElem hlt, Option.getD_some, List.getElem_idxOf]
  · intro j hj e
    rw [List.getD_eq_getElem?_getD, List.getElem?_eq_getElem (show j < l.length by omega), Option.getD_some] at e
    have h1 := List.not_of_lt_findIdx (p := fun a => a == x) (xs := l) (i := j) hj
    simp [e] at h1
theorem take_erase : ∀ (l : List Int) (x : Int), l.take (l.idxOf x) ++ l.drop (l.idxOf x + 1) = l.erase x
  | [], _ => rfl
  | y :: l, x => by
    by_cases e : y = x
    · subst e
      rw [List.idxOf_cons_self, List.erase_cons_head]
      rfl
    · rw [List.idxOf_cons, List.erase_cons_tail (by simpa using e)]
      have : (y == x) = false := by simpa using e
      rw [this]
      simp only [cond_false, List.take_succ_cons, List.drop_succ_cons, List.cons_append]
      rw [take_erase l x]
/-- A parent's kids have the kid. -/
theorem par_kid : ∀ (f : F) (q d p : Int), parF f d = some p → ∃ e ∈ T.ents f q, e.id = p ∧ d ∈ e.kids
  | none, _, _, _, h => by simp [parF] at h
  | some ⟨i, x, k, s⟩, q, d, p, h => by
    rw [parF] at h
    split at h
    · rename_i hk
      rw [Option.some.injEq] at h
      exact ⟨_, by rw [ents]; exact List.mem_cons_self .., h, hk⟩
    · split at h
      · rename_i p' hp
        rw [Option.some.injEq] at h
        subst h
        obtain ⟨e, he, h1⟩ := par_kid k i d p' hp
        exact ⟨e, by rw [ents, List.mem_cons, List.mem_append]; exact Or.inr (Or.inl he), h1⟩
      · obtain ⟨e, he, h1⟩ := par_kid s q d p h
        exact ⟨e, by rw [ents, List.mem_cons, List.mem_append]; exact Or.inr (Or.inr he), h1⟩
theorem block_putRow (w : World) (g off : Nat) (d : Array Int) (b : Nat) (h : b ≠ g) : (putRow (Value.int .i64) w g off d).heap[b]? = w.heap[b]? := by
  unfold putRow mapBlock
  rw [Array.getElem?_modify, if_neg (fun e => h e.symm)]
/-- A row of numbers, one taken out in place. -/
theorem row_del {w : World} {B g n cap q : Nat} {l : List Int} (x : Int) (h : w.ownsRow B 3 1 (.slice (some ⟨g, 0, none⟩) n cap) n (encK l)) (hx : x ∈ l) (hl : l.length = n) :
    (putRow (Value.int .i64) (Sort.ahead w q) g 0 (l.take (l.idxOf x) ++ l.drop (l.idxOf x + 1) ++ List.replicate (l.idxOf x + 1 - l.idxOf x) 0).toArray).ownsRow B 3 1 (.slice (some ⟨g, 0, none⟩) (n - 1) cap) (n - 1) (encK (l.erase x)) := by
  have hlt := (idxOf_at l x hx).2
  refine ⟨by rw [← take_erase, encK, List.length_map, List.length_append, List.length_take, List.length_drop]; omega, Or.inr ?_⟩
  rcases h.2 with ⟨h1, _⟩ | ⟨g', cap', cur, h1, h2, h3, h4, h5, h6, h7⟩
  · cases h1
  · simp only [Value.slice.injEq, Option.some.injEq, Addr.mk.injEq, true_and, and_true] at h1
    obtain ⟨rfl, rfl⟩ := h1
    refine ⟨g, cap, putCells (Value.int .i64) 0 (l.take (l.idxOf x) ++ l.drop (l.idxOf x + 1) ++ List.replicate (l.idxOf x + 1 - l.idxOf x) 0).toArray cur, rfl, h2, ?_, by omega, h5, ?_, ?_⟩
    · unfold putRow mapBlock
      rw [Array.getElem?_modify, if_pos rfl]
      show Option.map _ (w.heap[g]?) = _
      rw [h3]
      rfl
    · unfold putCells
      rw [Array.size_mapIdx]
      exact h6
    · rw [take_erase]
      have hel : (l.erase x).length = n - 1 := by rw [List.length_erase_of_mem hx, hl]
      refine List.ext_getElem? fun i => ?_
      by_cases hi : i < n - 1
      · have hci : i < cur.size := by omega
        rw [List.getElem?_take, if_pos (by omega), Array.getElem?_toList, putCells, Array.getElem?_mapIdx, Array.getElem?_eq_getElem hci, Option.map_some, if_pos ⟨Nat.zero_le _, by simp [hel]; omega⟩, encK, List.getElem?_map, List.getElem?_eq_getElem (show i < (l.erase x).length by omega), Option.map_some]
        congr 2
        rw [Nat.sub_zero, getElem!_pos _ i (by simp [hel]; omega), List.getElem_toArray, List.getElem_append_left (show i < (l.erase x).length by omega)]
      · rw [List.getElem?_eq_none (by rw [List.length_take]; omega), List.getElem?_eq_none (by rw [encK, List.length_map]; omega)]
theorem sindex_any (g cap : Nat) (l : List Int) (x : Int) (w : World) (hx : x ∈ l) (hb : l.length ≤ 9223372036854775807) (hc : ∀ (j : Nat) (hj : j < l.length), w.cell? ⟨g, j, none⟩ = some (.int .i64 l[j])) :
    Calls Tryd.prog 56 #[.slice (some ⟨g, 0, none⟩) l.length cap, .int .i64 x] w fun r w' => r = .returned (.int .i64 (l.idxOf x : Int)) ∧ w' = w := by
  have h := Any.slices_Index_int laysIx g 0 l.length cap l x w (Nat.le_refl _) hb (fun j hj => by
    rw [Nat.zero_add, List.getD_eq_getElem?_getD, List.getElem?_eq_getElem hj]
    exact hc j hj)
  rw [List.take_length, (idxOf_at l x hx).1] at h
  exact h
theorem sdelete_any (g cap : Nat) (l : List Int) (x : Int) (w : World) (m : Nat) (hx : x ∈ l) (hcap : l.length ≤ cap) (hmax : cap ≤ 9223372036854775807) (hk : ∃ cur, w.heap[g]? = some (.cells cur 3 (0, 0))) (hc : ∀ (j : Nat) (hj : j < l.length), w.cell? ⟨g, j, none⟩ = some (.int .i64 l[j])) :
    Calls Tryd.prog 57 #[.slice (some ⟨g, 0, none⟩) l.length cap, .int .i64 (l.idxOf x : Int), .int .i64 ((l.idxOf x : Int) + 1)] (w.drewN m) fun r w' => r = .returned (.slice (some ⟨g, 0, none⟩) (l.length - 1) cap) ∧ ∃ q, w' = putRow (Value.int .i64) (Sort.ahead w q) g 0 (l.take (l.idxOf x) ++ l.drop (l.idxOf x + 1) ++ List.replicate (l.idxOf x + 1 - l.idxOf x) 0).toArray := by
  have hX := (idxOf_at l x hx).2
  obtain ⟨cur, hk9⟩ := hk
  have hH : Holds (Value.int .i64) (w.drewN m) g 0 l.toArray := by
    intro j hj
    have hj' : j < l.length := by simpa using hj
    refine ⟨?_, Lib.frozen_of_heap (w := w.drewN m) hk9 _⟩
    rw [Nat.zero_add, getElem!_pos _ j hj]
    exact hc j hj'
  have h := Any.slices_Delete_int laysDe g 0 cap (l.idxOf x) (l.idxOf x + 1) l (w.drewN m) hH hcap hmax (by omega) (by omega)
  rw [Int.natCast_add] at h
  refine Calls.mono h ?_
  rintro r w' ⟨rfl, q, rfl⟩
  refine ⟨by rw [Nat.add_sub_cancel_left], m + q, ?_⟩
  rw [show Sort.ahead (w.drewN m) q = Sort.ahead w (m + q) from by rw [← Sort.ahead_ahead]; rfl]
/-- What cut leaves. -/
structure CutIn (B tb mb : Nat) (f : F) (L : List NS) (id p : Int) (w : World) (L' : List NS) (w' : World) : Prop where
  graph : GraphIn B mb L' w'
  ents : (L'.map (·.1)).Perm (mapE p (fun e => { e with kids := e.kids.erase id }) (T.ents f 0))
  same : idg L' = idg L
  blocks : allB L' = allB L
  top : w'.heap[tb]? = w.heap[tb]?
  turns : Turns (allB L) w w'
section
variable {B tb mb : Nat} {f : F} {nx : Int} {L : List NS} {w : World}
theorem mapE_mid {L1 L2 : List Nd} {e : Nd} {u : Nd → Nd} (hd : ((L1 ++ e :: L2).map (·.id)).Nodup) : mapE e.id u (L1 ++ e :: L2) = L1 ++ u e :: L2 := by
  rw [List.map_append, List.map_cons, List.nodup_append, List.nodup_cons] at hd
  rw [mapE_app, mapE_cons, if_pos rfl, mapE_none (fun h => hd.2.2 _ h _ (List.mem_cons_self ..) rfl), mapE_none hd.2.1.1]
theorem cut_graph (h : TreeIn B tb mb f nx L w) {e1 : Nd} {sp : Slot} {gk cap : Nat} {id : Int} (hn1 : (e1, sp) ∈ L) (hkv : sp.kv = .slice (some ⟨gk, 0, none⟩) e1.kids.length cap) (hk : id ∈ e1.kids) (q : Nat) {w1 : World}
    (hw1 : w1 = putRow (Value.int .i64) (Sort.ahead w q) gk 0 (e1.kids.take (e1.kids.idxOf id) ++ e1.kids.drop (e1.kids.idxOf id + 1) ++ List.replicate (e1.kids.idxOf id + 1 - e1.kids.idxOf id) 0).toArray) :
    w1.heap[sp.g]? = w.heap[sp.g]? ∧ ∃ L', CutIn B tb mb f L id e1.id w L' (w1.setCell ⟨sp.g, 7, none⟩ (.slice (some ⟨gk, 0, none⟩) (e1.kids.length - 1) cap)) := by
  obtain ⟨L1, L2, rfl⟩ := List.append_of_mem hn1
  have hn := h.graph.nodes _ hn1
  have hnd := blks_nodup h.graph hn1
  obtain ⟨b1, b2, b3⟩ := blks_parts hnd
  dsimp only at hn hnd b1 b2 b3
  have hgk : gk ≠ sp.g := b2 gk (by rw [hkv]; rfl)
  have hgkm : gk ∈ allB (L1 ++ (e1, sp) :: L2) := List.mem_flatMap.2 ⟨(e1, sp), by simp, mem_blks.2 (Or.inr (Or.inr (by rw [hkv]; rfl)))⟩
  have hspm : sp.g ∈ allB (L1 ++ (e1, sp) :: L2) := List.mem_flatMap.2 ⟨(e1, sp), by simp, mem_blks.2 (Or.inl rfl)⟩
  have o1 : ∀ b, b ≠ gk → w1.heap[b]? = w.heap[b]? := fun b hb => by rw [hw1]; exact block_putRow _ _ _ _ _ hb
  have h1 := o1 sp.g (Ne.symm hgk)
  refine ⟨h1, L1 ++ ({ e1 with kids := e1.kids.erase id }, { sp with kv := .slice (some ⟨gk, 0, none⟩) (e1.kids.length - 1) cap }) :: L2, ?_⟩
  have o2 : ∀ b, b ≠ sp.g → b ≠ gk → (w1.setCell ⟨sp.g, 7, none⟩ (.slice (some ⟨gk, 0, none⟩) (e1.kids.length - 1) cap)).heap[b]? = w.heap[b]? := fun b h2 h3 => (Below.heap_setCell _ _ _ _ h2).trans (o1 b h3)
  have hrow : w1.ownsRow B 3 1 (.slice (some ⟨gk, 0, none⟩) (e1.kids.length - 1) cap) (e1.kids.length - 1) (encK (e1.kids.erase id)) := by
    have := hn.kids
    rw [hkv] at this
    rw [hw1]
    exact row_del id this hk rfl
  have hlen : (e1.kids.erase id).length = e1.kids.length - 1 := List.length_erase_of_mem hk
  have hn' : NodeIn B { e1 with kids := e1.kids.erase id } { sp with kv := .slice (some ⟨gk, 0, none⟩) (e1.kids.length - 1) cap } (w1.setCell ⟨sp.g, 7, none⟩ (.slice (some ⟨gk, 0, none⟩) (e1.kids.length - 1) cap)) := by
    refine ⟨heap_setCell_same _ _ _ _ _ _ (h1.trans hn.cell), own_same hn.attrs (fun b hb => o2 b (b1 b hb) (fun e => ?_)), ?_⟩
    · exact b3 b hb (by rw [e, hkv]; rfl)
    · dsimp only
      rw [hlen]
      refine own_same hrow (fun b hb => Below.heap_setCell _ _ _ _ ?_)
      simp only [Value.ownBlock, Option.some.injEq] at hb
      rw [← hb]
      exact hgk
  have hbl : blks { sp with kv := Value.slice (some ⟨gk, 0, none⟩) (e1.kids.length - 1) cap } = blks sp := by
    simp only [blks, hkv]
    rfl
  have hall : allB (L1 ++ ({ e1 with kids := e1.kids.erase id }, { sp with kv := Value.slice (some ⟨gk, 0, none⟩) (e1.kids.length - 1) cap }) :: L2) = allB (L1 ++ (e1, sp) :: L2) := by simp only [allB_app, allB_cons, hbl]
  have hX : (w1.setCell ⟨sp.g, 7, none⟩ (.slice (some ⟨gk, 0, none⟩) (e1.kids.length - 1) cap)).heap.size = w.heap.size := by
    rw [hw1]
    simp [World.setCell, putRow, mapBlock, Sort.ahead]
  refine ⟨graph_turn h.graph (fun b _ hb => o2 b (fun e => hb (mem_blks.2 (Or.inl e))) (fun e => hb (mem_blks.2 (Or.inr (Or.inr (by rw [e, hkv]; rfl)))))) hn' (fun b hb => Or.inl (by rw [hbl] at hb; exact hb)) (by rw [hbl]; exact hnd) (fun b hb => h.graph.ge b (List.mem_cons_of_mem _ (List.mem_flatMap.2 ⟨(e1, sp), by simp, by rw [hbl] at hb; exact hb⟩))) rfl rfl, ?_, by simp [idg], hall, ?_, ?_⟩
  · have := h.ents.map (fun e : Nd => if e.id = e1.id then { e with kids := e.kids.erase id } else e)
    have hn2 : (((L1 ++ (e1, sp) :: L2).map (·.1)).map (·.id)).Nodup := by rw [List.map_map]; exact h.idl
    have e2 : mapE e1.id (fun e => { e with kids := e.kids.erase id }) ((L1 ++ (e1, sp) :: L2).map (·.1)) = L1.map (·.1) ++ { e1 with kids := e1.kids.erase id } :: L2.map (·.1) := by
      rw [List.map_append, List.map_cons]
      exact mapE_mid (by rw [List.map_append, List.map_cons] at hn2; exact hn2)
    rw [List.map_append, List.map_cons, ← e2]
    exact this
  · exact o2 tb (fun e => h.tb0 (List.mem_cons_of_mem _ (by rw [e]; exact hspm))) (fun e => h.tb0 (List.mem_cons_of_mem _ (by rw [e]; exact hgkm)))
  · refine ⟨by rw [hw1]; rfl, by rw [hw1]; rfl, by rw [hw1]; rfl, by omega, fun b _ hb => o2 b (fun e => hb (by rw [e]; exact hspm)) (fun e => hb (by rw [e]; exact hgkm))⟩
set_option maxRecDepth 100000 in
set_option maxHeartbeats 2000000 in
theorem cut_any (h : Hid (TreeIn B tb mb f nx L w)) (hf : Hid (Fine f)) (id p : Int) (hp : Hid (parF f id = some p)) :
    Calls Tryd.prog 39 #[.pointer (some ⟨tb, 0, none⟩), .int .i64 id] w fun r w' => (∃ v, r = .returned v) ∧ ∃ L', CutIn B tb mb f L id p w L' w' := by
  obtain ⟨e1, he1, hp1, hkid⟩ := par_kid f 0 id p hp.out
  have hid1 : id ∈ ids f := by
    apply Classical.byContradiction
    intro hn
    have := hp.out
    rw [par_none f id hn] at this
    cases this
  obtain ⟨e, s, m1, m2, m3, m4, m5⟩ : ∃ e s, (e, s) ∈ L ∧ e ∈ T.ents f 0 ∧ e.id = id ∧ id ∈ ids f ∧ look (idg L) id = some s.g := by
    rcases h.out.find id with ⟨q, _⟩ | q
    · exact absurd hid1 q
    · exact q
  have hpar : e.par = p ∧ p ∈ ids f := by
    rcases path_par f 0 hf.out.nd e m2 with ⟨_, q2, _⟩ | ⟨q1, _, q3⟩
    · rw [m3] at q2
      have := hp.out
      rw [par_top f id hf.out.nd q2] at this
      cases this
    · rw [m3, hp.out, Option.some.injEq] at q3
      exact ⟨q3.symm, by rw [q3]; exact q1⟩
  obtain ⟨sp, n1, n5⟩ : ∃ sp, (e1, sp) ∈ L ∧ look (idg L) p = some sp.g := by
    refine ⟨slotOf L e1.id, h.out.ent e1 he1, ?_⟩
    have := h.out.slot hpar.2
    rw [this, hp1]
  have hne := (h.out.graph.nodes _ m1).cells
  have hnp := h.out.graph.nodes _ n1
  have hne1 := hne.2.1
  rw [hpar.1] at hne1
  dsimp only at hne1
  obtain ⟨d0, d1, d2, d3, d4, d5, d6, d7⟩ := hnp.cells
  obtain ⟨gk, cap, hkv, hcc⟩ := kids_cells hnp (by intro q; rw [show e1.kids = [] from q] at hkid; simp at hkid)
  dsimp only at hkv hcc d7
  rw [hkv] at d7
  have htop := h.out.cells.1
  have hw1 : wfI id := hf.out.wf id hid1
  have hw2 : wfI p := hf.out.wf p hpar.2
  have hg1 : ∀ m, (Instr.lookup 62 (.map (some mb)) (.int .i64 id) false).run Tryd.prog (w.drewN m) = .ok (.pointer (some ⟨s.g, 0, none⟩)) (w.drewN m) := fun m => by
    rw [get (h.out.graph.map.kept (w' := w.drewN m) rfl) hw1, m5]; rfl
  have hg2 : ∀ m, (Instr.lookup 62 (.map (some mb)) (.int .i64 p) false).run Tryd.prog (w.drewN m) = .ok (.pointer (some ⟨sp.g, 0, none⟩)) (w.drewN m) := fun m => by
    rw [get (h.out.graph.map.kept (w' := w.drewN m) rfl) hw2, n5]; rfl
  have hrk := hnp.kids
  dsimp only at hrk
  rw [hkv] at hrk
  obtain ⟨hk9, hcap, hmax⟩ : (∃ cur, w.heap[gk]? = some (.cells cur 3 (0, 0))) ∧ e1.kids.length ≤ cap ∧ cap ≤ maxLen := by
    rcases hrk.2 with ⟨q, _⟩ | ⟨g', cap', cur, q, _, q2, q3, q4, _⟩
    · cases q
    · simp only [Value.slice.injEq, Option.some.injEq, Addr.mk.injEq, true_and, and_true] at q
      obtain ⟨rfl, rfl⟩ := q
      exact ⟨⟨cur, q2⟩, q3, q4⟩
  have hmax' : cap ≤ 9223372036854775807 := hmax
  have HIX := hid (fun m => sindex_any gk cap e1.kids id (w.drewN m) hkid (by omega) hcc)
  have HDE := hid (fun m => sdelete_any gk cap e1.kids id w m hkid hcap hmax' hk9 hcc)
  obtain ⟨k, HKE⟩ : ∃ k, Hid (e1.kids.idxOf id = k) := ⟨_, hid rfl⟩
  obtain ⟨n, HNE⟩ : ∃ n, Hid (e1.kids.length = n) := ⟨_, hid rfl⟩
  have hkn : k + 1 ≤ 9223372036854775807 := by have := (idxOf_at e1.kids id hkid).2; rw [HKE.out] at this; omega
  rw [HNE.out] at HIX HDE d7
  rw [HKE.out] at HIX HDE
  have HK := hid hkid
  have HCC := hid hcc
  have HNP := hid hnp
  have HN1 := hid n1
  have HKV := hid hkv
  have HP1 := hid hp1
  clear hrk hk9 hcap hmax hmax' hne hnp d0 d1 d2 d3 d4 d5 d6 hcc m1 m2 m3 m4 hpar he1 hkid n1 hkv hp1 m5 n5
  go_enter Tryd.func39, Tryd.ntmps39
  go_wp2
  go_quiet (fail)
  go_wp2_with fail
  refine (HIX.out _).mono ?_
  rintro r w1 ⟨rfl, rfl⟩
  go_wp2_with fail
  refine (HDE.out _).mono ?_
  rintro r w1 ⟨rfl, q, hw1⟩
  rw [← HKE.out] at hw1
  obtain ⟨hs, hL⟩ := cut_graph h.out HN1.out HKV.out HK.out q hw1
  rw [HNE.out, HP1.out] at hL
  have HL := hid hL
  have hc := HNP.out.cell
  have fz : w1.frozen? ⟨sp.g, 7, none⟩ = false := Lib.frozen_of_heap (hs.trans hc) 7
  have d7' : w1.cell? ⟨sp.g, 7, none⟩ = some (.slice (some ⟨gk, 0, none⟩) n cap) := (World.cell?_of_block hs).trans d7
  clear hw1 hs hL hc hg1 hg2 d7
  go_wp2
  go_end0
  exact ⟨⟨_, rfl⟩, HL.out⟩
end
end N
end Go.Proofs.YtidccohjehegjaaDoor
