/- What is left of a tree in memory when a node's ids are taken out of the map. -/
import Derived.Test.YtidccohjehegjaaDoorNInsK
import Derived.Test.YtidccohjehegjaaDoorNUninsK
import Derived.Test.YtidccohjehegjaaDoorK6
import Derived.Test.YtidccohjehegjaaDoorNCutK
import Derived.Test.YtidccohjehegjaaDoorK2
namespace Go.Proofs.YtidccohjehegjaaDoor
open Go.RowKit Go.Shelf
namespace T
/-- A row at a level that is greater. -/
def shiftR (d : Int) (r : Row) : Row := (r.1, { r.2 with level := r.2.level + d })
theorem named_shift : ∀ (l : List P.Itm) (nx d : Int), named nx d l = (named nx 0 l).map (shiftR d)
  | [], _, _ => rfl
  | x :: l, nx, d => by
    rw [named, named, List.map_cons, named_shift l (nx + 1) d]
    simp [shiftR]
theorem take_shift (d n : Int) (l : List Row) : (l.map (shiftR d)).takeWhile (fun q => decide (n + d < q.2.level)) = (l.takeWhile fun q => decide (n < q.2.level)).map (shiftR d) := by
  rw [List.takeWhile_map]
  congr 2
  funext q
  simp [shiftR]
theorem drop_shift (d n : Int) (l : List Row) : (l.map (shiftR d)).dropWhile (fun q => decide (n + d < q.2.level)) = (l.dropWhile fun q => decide (n < q.2.level)).map (shiftR d) := by
  rw [List.dropWhile_map]
  congr 2
  funext q
  simp [shiftR]
/-- The nodes of a forest do not hang on the levels that its rows stand at. -/
theorem build_shift (d : Int) : ∀ (k : Nat) (n : Int) (l : List Row), tops (build k (n + d) (l.map (shiftR d))) = tops (build k n l) ∧ ∀ p, ents (build k (n + d) (l.map (shiftR d))) p = ents (build k n l) p
  | 0, _, _ => by simp [build]
  | _ + 1, _, [] => by simp [build]
  | k + 1, n, r :: l => by
    have e1 : n + d + 1 = n + 1 + d := by omega
    rw [List.map_cons, build, build, take_shift, drop_shift, e1]
    obtain ⟨t1, h1⟩ := build_shift d k (n + 1) (l.takeWhile fun q => decide (n < q.2.level))
    obtain ⟨t2, h2⟩ := build_shift d k n (l.dropWhile fun q => decide (n < q.2.level))
    refine ⟨by rw [tops, tops, t2]; rfl, fun p => ?_⟩
    rw [ents, ents, t1, h1, h2]
    rfl
theorem forest_ents (nx d : Int) (l : List P.Itm) : tops (forestOf nx d l) = tops (forestOf nx 0 l) ∧ ∀ p, ents (forestOf nx d l) p = ents (forestOf nx 0 l) p := by
  have := build_shift d l.length 0 (named nx 0 l)
  rw [Int.zero_add, ← named_shift] at this
  exact this
end T
namespace N
open T
section
variable {B mb : Nat}
set_option maxHeartbeats 1000000 in
/-- A node's kids turned, their row perhaps laid anew. -/
theorem kids_graph {L : List NS} {w1 w2 : World} (h : GraphIn B mb L w1) {e : Nd} {s : Slot} (hm : (e, s) ∈ L) (hgrow : w1.grownBy w2 s.kv.ownBlock) {g n cap : Nat} {K : List Int} (hn : K.length = n)
    (hrow : w2.ownsRow B 3 1 (.slice (some ⟨g, 0, none⟩) n cap) n (encK K)) (hg : s.kv.ownBlock = some g ∨ g = w1.heap.size) (u : Nd → Nd) (hu : u e = { e with kids := K }) :
    w2.heap[s.g]? = w1.heap[s.g]? ∧ ∃ L', GraphIn B mb L' (w2.setCell ⟨s.g, 7, none⟩ (.slice (some ⟨g, 0, none⟩) n cap)) ∧ L'.map (·.1) = mapE e.id u (L.map (·.1)) ∧ idg L' = idg L ∧ (∀ b ∈ allB L', b ∈ allB L ∨ w1.heap.size ≤ b) ∧ Turns (allB L) w1 (w2.setCell ⟨s.g, 7, none⟩ (.slice (some ⟨g, 0, none⟩) n cap)) := by
  subst hn
  have hidl : ((L.map (·.1)).map (·.id)).Nodup := by
    have := h.map.nd
    rw [idg, List.map_map] at this
    rw [List.map_map]
    exact this
  obtain ⟨L1, L2, rfl⟩ := List.append_of_mem hm
  have hn0 := h.nodes _ hm
  have hnd := blks_nodup h hm
  obtain ⟨b1, b2, b3⟩ := blks_parts hnd
  dsimp only at hn0 hnd b1 b2 b3
  have hs := lt_of_block hn0.cell
  have h1 : w2.heap[s.g]? = w1.heap[s.g]? := hgrow.block s.g hs (fun q => b2 s.g q.symm rfl)
  have hgs : g ≠ s.g := by
    rcases hg with q | q
    · exact b2 g q
    · omega
  have hgb := own_lt hrow (g := g) rfl
  have o2 : ∀ b, b < w1.heap.size → b ≠ s.g → s.kv.ownBlock ≠ some b → (w2.setCell ⟨s.g, 7, none⟩ (.slice (some ⟨g, 0, none⟩) K.length cap)).heap[b]? = w1.heap[b]? := fun b hb h2 h3 => (Below.heap_setCell _ _ _ _ h2).trans (hgrow.block b hb (Ne.symm h3))
  have hn' : NodeIn B { e with kids := K } { s with kv := .slice (some ⟨g, 0, none⟩) K.length cap } (w2.setCell ⟨s.g, 7, none⟩ (.slice (some ⟨g, 0, none⟩) K.length cap)) := by
    refine ⟨heap_setCell_same _ _ _ _ _ _ (h1.trans hn0.cell), own_same hn0.attrs (fun b hb => o2 b (own_lt hn0.attrs hb).2 (b1 b hb) (fun q => b3 b hb q)), ?_⟩
    refine own_same hrow (fun b hb => Below.heap_setCell _ _ _ _ ?_)
    simp only [Value.ownBlock, Option.some.injEq] at hb
    rw [← hb]
    exact hgs
  have hmb : ∀ b, b ∈ blks s → b ∈ mb :: allB (L1 ++ (e, s) :: L2) := fun b hb => List.mem_cons_of_mem _ (List.mem_flatMap.2 ⟨(e, s), by simp, hb⟩)
  have hnew : ∀ b ∈ blks { s with kv := Value.slice (some ⟨g, 0, none⟩) K.length cap }, b ∈ blks s ∨ b = g := fun b hb => by
    rcases mem_blks.1 hb with q | q | q
    · exact Or.inl (mem_blks.2 (Or.inl q))
    · exact Or.inl (mem_blks.2 (Or.inr (Or.inl q)))
    · simp only [Value.ownBlock, Option.some.injEq] at q
      exact Or.inr q.symm
  have hnew2 : ∀ b ∈ blks { s with kv := Value.slice (some ⟨g, 0, none⟩) K.length cap }, b ∈ blks s ∨ w1.heap.size ≤ b := fun b hb => by
    rcases hnew b hb with q | q
    · exact Or.inl q
    · rcases hg with r | r
      · exact Or.inl (mem_blks.2 (Or.inr (Or.inr (by rw [q]; exact r))))
      · exact Or.inr (by omega)
  have hnd' : (blks { s with kv := Value.slice (some ⟨g, 0, none⟩) K.length cap }).Nodup := by
    have hag : ∀ a, s.av.ownBlock = some a → a ≠ g := fun a ha q => by
      rcases hg with r | r
      · exact b3 a ha (by rw [q]; exact r)
      · have := (own_lt hn0.attrs ha).2; omega
    unfold blks
    cases hav : s.av.ownBlock with
    | none => simp [Value.ownBlock, Ne.symm hgs]
    | some a => simp [Value.ownBlock, Ne.symm hgs, hag a hav, Ne.symm (b1 a hav)]
  have hbl : ∀ b ∈ allB (L1 ++ ({ e with kids := K }, { s with kv := Value.slice (some ⟨g, 0, none⟩) K.length cap }) :: L2), b ∈ allB (L1 ++ (e, s) :: L2) ∨ w1.heap.size ≤ b := fun b hb => by
    simp only [allB_app, allB_cons, List.mem_append] at hb ⊢
    rcases hb with q | q | q
    · exact Or.inl (Or.inl q)
    · rcases hnew2 b q with r | r
      · exact Or.inl (Or.inr (Or.inl r))
      · exact Or.inr r
    · exact Or.inl (Or.inr (Or.inr q))
  refine ⟨h1, L1 ++ ({ e with kids := K }, { s with kv := .slice (some ⟨g, 0, none⟩) K.length cap }) :: L2, ?_, ?_, by simp [idg], hbl, ?_⟩
  · refine graph_turn h (fun b hb hq => o2 b hb (fun q => hq (mem_blks.2 (Or.inl q))) (fun q => hq (mem_blks.2 (Or.inr (Or.inr q))))) hn' hnew2 hnd' (fun b hb => ?_) rfl rfl
    rcases hnew b hb with q | q
    · exact h.ge b (hmb b q)
    · rw [q]; exact hgb.1
  · rw [List.map_append, List.map_cons] at hidl ⊢
    rw [List.map_append, List.map_cons, mapE_mid hidl, hu]
  · refine ⟨hgrow.os, hgrow.tape, hgrow.output, by simpa [World.setCell] using hgrow.size, fun b hb hq => o2 b hb (fun q => hq ?_) (fun q => hq ?_)⟩
    · rw [q]; exact List.mem_flatMap.2 ⟨(e, s), by simp, mem_blks.2 (Or.inl rfl)⟩
    · exact List.mem_flatMap.2 ⟨(e, s), by simp, mem_blks.2 (Or.inr (Or.inr q))⟩
end
section
variable {B tb mb : Nat} {f g : F} {nx : Int} {L L1 L' : List NS} {w : World}
/-- A tree behind an insertion. -/
theorem insert_tree {p : Int} {a : Nat} (hd : (ids f).Nodup) (hents : (L.map (·.1)).Perm (T.ents f 0)) (hL1 : L1.map (·.1) = T.ents g p) (hp : p ∈ ids f) (hpg : p ∉ ids g) (hG : GraphIn B mb L' w)
    (hL' : L'.map (·.1) = mapE p (fun q => { q with kids := insL q.kids a (tops g) }) ((L ++ L1).map (·.1))) (ht : w.heap[tb]? = some (.cells #[.map (some mb), .int .i64 (rootF f), .int .i64 nx] 64 (0, 0))) (htB : B ≤ tb) (ht0 : tb ∉ mb :: allB L') :
    TreeIn B tb mb (ins f p a g) nx L' w := by
  refine ⟨hG, ?_, ?_, htB, ht0⟩
  · rw [hL', List.map_append, mapE_app, hL1, mapE_ents hpg]
    exact ((hents.map _).append_right _).trans (ents_ins f 0 p a g hd hp).symm
  · rw [ht, root_tops, root_tops, tops_ins]
end
end N
end Go.Proofs.YtidccohjehegjaaDoor
namespace Go.Proofs.YtidccohjehegjaaDoor
open Go.RowKit Go.Shelf
namespace N
section
variable {P : Program} {ops : Array Oper} {Q : Exit → Act → World → Prop} {md : Region.Mode} {S : World → Prop} {z : Nat}
/-- Each waits for the one ahead of it, and none of them has come up. -/
def linked (md : Region.Mode) (ops : Array Oper) (done : Array Bool) : Nat → List Nat → Bool
  | _, [] => true
  | x, y :: r => waits md ops y x && !done.getD y true && linked md ops done y r
theorem ready_not_on {done : Array Bool} {x j : Nat} (hx : done.getD x true = false) (h2 : j ∈ Region.ready md ops done) : done.getD j true = false ∧ ∃ oj, ops[j]? = some oj ∧ ∀ e ∈ oj.after, Region.binds md e = true → e.on ≠ x := by
  obtain ⟨u, oj, hoj, hall⟩ := mem_ready.1 h2
  refine ⟨u, oj, hoj, fun e he hb q => ?_⟩
  have g1 := hall e he hb
  rw [q] at g1
  rcases Nat.lt_or_ge x done.size with r | r
  · simp [r] at hx g1
    rw [hx] at g1
    cases g1
  · simp [Array.getElem?_eq_none r] at g1
theorem linked_not : ∀ {l : List Nat} {done : Array Bool} {x : Nat}, done.getD x true = false → linked md ops done x l = true → ∀ y ∈ l, y ∉ Region.ready md ops done ∧ done.getD y true = false
  | [], _, _, _, _, y, hy => by simp at hy
  | c :: l, done, x, hx, h, y, hy => by
    rw [linked, Bool.and_eq_true, Bool.and_eq_true, Bool.not_eq_true'] at h
    rcases List.mem_cons.1 hy with e | e
    · rw [e]
      refine ⟨fun hr => ?_, h.1.2⟩
      obtain ⟨_, oj, hoj, hnot⟩ := ready_not_on hx hr
      have hw := h.1.1
      unfold waits at hw
      rw [hoj] at hw
      obtain ⟨q, hq, hq2⟩ := Array.any_eq_true'.1 hw
      simp only [Bool.and_eq_true, beq_iff_eq] at hq2
      exact hnot q hq hq2.1 hq2.2
    · exact linked_not h.1.2 h.2 y e
theorem linked_set : ∀ {l : List Nat} {done : Array Bool} {x j : Nat}, linked md ops done x l = true → j ∉ l → linked md ops (done.setIfInBounds j true) x l = true
  | [], _, _, _, _, _ => rfl
  | c :: l, done, x, j, h, hj => by
    simp only [List.mem_cons, not_or] at hj
    rw [linked, Bool.and_eq_true, Bool.and_eq_true] at h ⊢
    exact ⟨⟨h.1.1, by rw [getD_set_ne true hj.1]; exact h.1.2⟩, linked_set h.2 hj.2⟩
theorem till_chain {i : Nat} {l : List Nat} {oi : Oper} {v : Value} (hi : ops[i]? = some oi) (hzl : z ∈ l) (hiz : i ≠ z) (hsel : ∀ (j : Nat) (o : Oper) cs b, ops[j]? = some o → o.op ≠ .select cs b) (hQ : ∀ c a w, Q (.panic c) (a.put oi.dst v) w → Q (.panic c) a w) :
    ∀ (f : Nat) (done : Array Bool) (a : Act) (w : World), (∀ j oj, ops[j]? = some oj → j ≠ i → done.getD j true = false → (∀ e ∈ oj.after, Region.binds md e = true → e.on ≠ i) → oi.apart ops oj = true) →
      i ∈ Region.ready md ops done → YieldsIf P ops S oi v a → S w → linked md ops done i l = true → till P md ops Q S z f (done.setIfInBounds i true) (a.put oi.dst v) w → till P md ops Q S z (f + 1) done a w := by
  intro f
  induction f with
  | zero =>
    intro done a w _ hr hy hS _ H
    refine ⟨fun h => (by rw [h] at hr; cases hr), fun j hj => ?_⟩
    by_cases e : j = i
    · rw [e]
      exact hy.wpOp hi hS ⟨fun _ _ => hS, H⟩
    · have := ready_mono hj e
      rw [H.1] at this
      cases this
  | succ f ih =>
    intro done a w hfree hr hy hS hl H
    refine ⟨fun h => (by rw [h] at hr; cases hr), fun j hj => ?_⟩
    by_cases e : j = i
    · rw [e]
      exact hy.wpOp hi hS ⟨fun _ _ => hS, H⟩
    · have hu0 := (mem_ready.1 hr).1
      obtain ⟨hun, oj, hoj, hnot⟩ := ready_not_on hu0 hj
      have hall := linked_not hu0 hl
      have hjl : j ∉ l := fun q => (hall j q).1 hj
      have hjz : j ≠ z := fun q => hjl (by rw [q]; exact hzl)
      have hzd := (hall z hzl).2
      have hSw : ∀ {w' : World}, (j ≠ z → (done.setIfInBounds i true).getD z true = false → S w') → S w' := fun q => q hjz (by rw [getD_set_ne true hiz]; exact hzd)
      refine wpOp_mono (fun a' w' q => ⟨fun _ _ => hSw q.2.1, ih (done.setIfInBounds j true) a' w' (fun k ok hk hki hu hno => hfree k ok hk hki ?_ hno) (ready_mono hr (Ne.symm e)) q.1 (hSw q.2.1) (linked_set hl hjl) ?_⟩) (wpOp_putIf hoj (hfree j oj hoj e hun hnot) (fun cs b => hsel i oi cs b hi) (fun cs b => hsel j oj cs b hoj) hQ hy (H.2 j (ready_mono hj e)))
      · by_cases r : j = k
        · rw [← r]; exact hun
        · rwa [getD_set_ne true r] at hu
      · rw [Array.setIfInBounds_comm _ _ e]
        exact q.2.2
/-- As till_take, where the last one waits by way of others. -/
theorem till_via (l : List Nat) {i : Nat} {oi : Oper} {v : Value} {f : Nat} {done : Array Bool} {a : Act} {w : World} (hi : ops[i]? = some oi) (hs : Region.noSelect ops = true) (hf : Region.free md ops done i = true) (hr : (Region.ready md ops done).contains i = true) (hw : (i != z && l.contains z && linked md ops done i l) = true)
    (hQ : ∀ c a w, Q (.panic c) (a.put oi.dst v) w → Q (.panic c) a w) (hy : YieldsIf P ops S oi v a) (hS : S w) (h : till P md ops Q S z f (done.setIfInBounds i true) (a.put oi.dst v) w) : till P md ops Q S z (f + 1) done a w := by
  simp only [Bool.and_eq_true, bne_iff_ne, List.contains_eq_mem, decide_eq_true_eq] at hw
  exact till_chain hi hw.1.2 hw.1.1 (Region.noSelect_spec hs) hQ f done a w (Region.free_spec hi hf) (by simpa using hr) hy hS hw.2 h
end
end N
end Go.Proofs.YtidccohjehegjaaDoor
namespace Go.Proofs.YtidccohjehegjaaDoor
open Go.RowKit Go.Shelf Go.Maps
namespace N
open T
/-- A map without some ids. -/
def gone (m : List (Int × Nat)) (ds : List Int) : List (Int × Nat) := m.filter fun p => !decide (p.1 ∈ ds)
theorem gone_nil (m : List (Int × Nat)) : gone m [] = m := by simp [gone]
theorem gone_snoc (m : List (Int × Nat)) (ds : List Int) (i : Int) : gone m (ds ++ [i]) = (gone m ds).filter fun p => !decide (p.1 = i) := by
  unfold gone
  rw [List.filter_filter]
  congr 1
  funext p
  by_cases h1 : p.1 ∈ ds <;> by_cases h2 : p.1 = i <;> simp [h1, h2]
theorem look_gone {ds : List Int} {i : Int} (h : i ∉ ds) : ∀ m : List (Int × Nat), look (gone m ds) i = look m i
  | [] => rfl
  | (j, g) :: m => by
    have ih := look_gone h m
    unfold gone at ih ⊢
    by_cases q : j ∈ ds
    · have hj : j ≠ i := fun e => h (by rw [← e]; exact q)
      rw [List.filter_cons_of_neg (by simp [q]), look, if_neg hj, ih]
    · rw [List.filter_cons_of_pos (by simp [q]), look, look, ih]
/-- The deletion of an id. -/
theorem del_run {w : World} {b : Nat} {m : List (Int × Nat)} (h : MapIs w b m) {i : Int} (hi : wfI i) (ty : TypeId) : ∃ w', (Builtin.delete_ #[62, 3] ty #[.map (some b), .int .i64 i]).run Tryd.prog w = .ok (.tuple #[]) w' ∧ MapIs w' b (m.filter fun p => !decide (p.1 = i)) ∧ w.grownBy w' (some b) := by
  obtain ⟨D, h1, h2⟩ := h.own
  obtain ⟨w', hr, ho, hg⟩ := h1.drop law Tryd.underlying62 (keyOf_int_mk Tryd.underlying3 hi) ty
  exact ⟨w', hr, del h2 h.nd (h1.tidy law) ho, hg.grown⟩
theorem allB_filter (p : NS → Bool) : ∀ L : List NS, (allB (L.filter p)).Sublist (allB L)
  | [] => by simp
  | a :: L => by
    have ih := allB_filter p L
    by_cases q : p a = true
    · rw [List.filter_cons_of_pos q]
      simp only [allB, List.flatMap_cons] at ih ⊢
      exact List.Sublist.append (List.Sublist.refl _) ih
    · rw [List.filter_cons_of_neg q]
      simp only [allB, List.flatMap_cons] at ih ⊢
      exact List.Sublist.trans ih (List.sublist_append_right _ _)
section
variable {B tb mb : Nat} {f : F} {nx : Int} {L L' : List NS} {w w1 W : World}
theorem gone_tree (h : TreeIn B tb mb f nx L w) (hd : (ids f).Nodup) {id p : Int} (hp : parF f id = some p) (hc : CutIn B tb mb f L id p w L' w1) (hm : MapIs W mb (gone (idg L') (ids (sub f id)))) (hb : ∀ b, b ≠ mb → b < w1.heap.size → W.heap[b]? = w1.heap[b]?) :
    TreeIn B tb mb (T.del f id) nx (L'.filter fun p => !decide (p.1.id ∈ ids (sub f id))) W := by
  have htop : id ∉ tops f := fun q => by rw [par_top f id hd q] at hp; cases hp
  have hmem := (par_mem f id p hp).2
  obtain ⟨pre, x, m, k, post, A⟩ := at_of f 0 id hd hmem
  have hdis : ∀ e ∈ T.ents (T.del f id) 0, e.id ∉ ids (sub f id) := fun e he => by
    have h1 : e.id ∈ ids (T.del f id) := by rw [← ents_ids _ 0]; exact List.mem_map_of_mem (f := fun e : Nd => e.id) he
    exact (del_iff hd A e.id ((ids_del f id).subset h1)).1 h1
  have hin : ∀ e ∈ T.ents (sub f id) p, e.id ∈ ids (sub f id) := fun e he => by
    rw [← ents_ids (sub f id) p]
    exact List.mem_map_of_mem (f := fun e : Nd => e.id) he
  have htm : tb ∉ mb :: allB L' := by rw [hc.blocks]; exact h.tb0
  have htw : tb < w1.heap.size := Nat.lt_of_lt_of_le (lt_of_block h.top) hc.turns.size
  have hsub : ∀ q ∈ L'.filter (fun p => !decide (p.1.id ∈ ids (sub f id))), q ∈ L' := fun q hq => (List.mem_filter.1 hq).1
  have hmb := (List.nodup_cons.1 hc.graph.nd).1
  refine ⟨⟨fun q hq => (hc.graph.nodes q (hsub q hq)).same fun b hbb => ?_, ?_, ?_, ?_⟩, ?_, ?_, h.tbB, ?_⟩
  · have hbl : b ∈ allB L' := List.mem_flatMap.2 ⟨q, hsub q hq, hbb⟩
    exact hb b (fun e => hmb (by rw [← e]; exact hbl)) (hc.graph.lt b (List.mem_cons_of_mem _ hbl))
  · exact hc.graph.nd.sublist (List.Sublist.cons_cons _ (allB_filter _ L'))
  · intro b hbb
    refine hc.graph.ge b ?_
    rcases List.mem_cons.1 hbb with q | q
    · rw [q]; exact List.mem_cons_self ..
    · exact List.mem_cons_of_mem _ ((allB_filter _ L').subset q)
  · have e : idg (L'.filter fun p => !decide (p.1.id ∈ ids (sub f id))) = gone (idg L') (ids (sub f id)) := by
      unfold idg gone
      rw [List.filter_map]
      rfl
    rw [e]
    exact hm
  · have e : (L'.filter fun p => !decide (p.1.id ∈ ids (sub f id))).map (·.1) = (L'.map (·.1)).filter fun e => !decide (e.id ∈ ids (sub f id)) := by
      rw [List.filter_map]
      rfl
    rw [e]
    have h1 := (hc.ents.trans (ents_del f 0 id p hd hp)).filter fun e : Nd => !decide (e.id ∈ ids (sub f id))
    have e3 : (T.ents (T.del f id) 0).filter (fun e : Nd => !decide (e.id ∈ ids (sub f id))) = T.ents (T.del f id) 0 := List.filter_eq_self.2 fun e he => by simp [hdis e he]
    have e4 : (T.ents (sub f id) p).filter (fun e : Nd => !decide (e.id ∈ ids (sub f id))) = [] := List.filter_eq_nil_iff.2 fun e he => by simp [hin e he]
    rw [List.filter_append, e3, e4, List.append_nil] at h1
    exact h1
  · rw [hb tb (fun e => htm (by rw [e]; exact List.mem_cons_self ..)) htw, hc.top, h.top, root_tops, root_tops, tops_del f id hd, List.erase_of_not_mem htop]
  · intro q
    refine htm ?_
    rcases List.mem_cons.1 q with q | q
    · rw [q]; exact List.mem_cons_self ..
    · exact List.mem_cons_of_mem _ ((allB_filter _ L').subset q)
theorem par_some {id : Int} (hd : (ids f).Nodup) (h1 : id ∈ ids f) (h2 : id ∉ tops f) : ∃ p, parF f id = some p := by
  rw [← ents_ids f 0] at h1
  obtain ⟨e, he, rfl⟩ := List.mem_map.1 h1
  rcases path_par f 0 hd e he with ⟨_, q, _⟩ | ⟨_, _, q⟩
  · exact absurd q h2
  · exact ⟨_, q⟩
theorem first_root {id : Int} : findN (rows f 0) id = some 0 ↔ f ≠ none ∧ id = rootF f := by
  cases f with
  | none => simp [rows, findN]
  | some n =>
    obtain ⟨i, x, k, s⟩ := n
    rw [rows, findN, List.findIdx?_cons]
    simp only [rootF, ne_eq, reduceCtorEq, not_false_eq_true, true_and]
    by_cases e : i = id
    · simp [e]
    · simp only [e, decide_false, Bool.false_eq_true, if_false]
      refine ⟨fun h => ?_, fun h => absurd h.symm e⟩
      cases hx : List.findIdx? (fun r : Row => decide (r.1 = id)) (rows k (0 + 1) ++ rows s 0) with
      | none => rw [hx] at h; cases h
      | some j => rw [hx] at h; simp at h
end
end N
end Go.Proofs.YtidccohjehegjaaDoor
