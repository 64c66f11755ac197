/- The walk of grove's Order: the ids of all that is below the root, in order, in a row of the call's own. -/
import Derived.Test.YtidccohjehegjaaDoorK5
import Derived.Test.YtidccohjehegjaaDoorK6
import Derived.Test.YtidccohjehegjaaDoorK4
import Derived.Deep.AppendLies
namespace Go.Proofs.YtidccohjehegjaaDoor
open Go.RowKit Go.Shelf
attribute [local go_sem] Oper.semAt_some
namespace N
open T
theorem ents_sub : ∀ (f : F) (q d : Int), (ids f).Nodup → ∃ p, ∀ e ∈ ents (sub f d) p, e ∈ ents f q
  | none, q, d, _ => ⟨0, by simp [sub, ents]⟩
  | some ⟨i, x, k, s⟩, q, d, hd => by
    obtain ⟨d1, d2, d3, d4, d5⟩ := nodup_parts hd
    by_cases e : i = d
    · refine ⟨q, fun y hy => ?_⟩
      rw [sub, if_pos e, ents, List.mem_cons, List.mem_append] at hy
      rw [ents, List.mem_cons, List.mem_append]
      rcases hy with hy | hy | hy
      · exact Or.inl hy
      · exact Or.inr (Or.inl hy)
      · simp [ents] at hy
    · by_cases hk : d ∈ ids k
      · obtain ⟨p, hp⟩ := ents_sub k i d d3
        refine ⟨p, fun y hy => ?_⟩
        rw [sub_k e d3 hk] at hy
        rw [ents, List.mem_cons, List.mem_append]
        exact Or.inr (Or.inl (hp y hy))
      · obtain ⟨p, hp⟩ := ents_sub s q d d4
        refine ⟨p, fun y hy => ?_⟩
        rw [sub_s e hk] at hy
        rw [ents, List.mem_cons, List.mem_append]
        exact Or.inr (Or.inr (hp y hy))
/-- What is asked of a forest for its walks. -/
structure Fine (f : F) : Prop where
  nd : (ids f).Nodup
  wf : ∀ i ∈ ids f, wfI i
  len : (ids f).length ≤ 100000
  zero : (0 : Int) ∉ ids f
theorem sub_ids_sub (f : F) (d : Int) (hd : (ids f).Nodup) : ∀ i ∈ ids (sub f d), i ∈ ids f := by
  obtain ⟨p, hp⟩ := ents_sub f 0 d hd
  intro i hi
  rw [← ents_ids (sub f d) p] at hi
  obtain ⟨e, he, rfl⟩ := List.mem_map.1 hi
  rw [← ents_ids f 0]
  exact List.mem_map_of_mem (hp e he)
theorem sub_nodup (f : F) (d : Int) (hd : (ids f).Nodup) : (ids (sub f d)).Nodup ∧ (ids (sub f d)).length ≤ (ids f).length := by
  by_cases h : d ∈ ids f
  · obtain ⟨pre, x, m, k, post, A⟩ := at_of f 0 d hd h
    have e1 : (rows f 0).map (·.1) = ids f := rows_ids f 0
    have e2 := A.eq
    rw [ids_sub_at A]
    have hs : (d :: ids k).Sublist (ids f) := by
      rw [← e1, e2, List.map_append, List.map_cons, List.map_append, rows_ids]
      exact List.Sublist.trans (List.Sublist.cons_cons _ (List.sublist_append_left _ _)) (List.sublist_append_right _ _)
    exact ⟨hd.sublist hs, hs.length_le⟩
  · rw [sub_none f d h]
    exact ⟨by simp [ids], by simp [ids]⟩
section
variable {B tb mb : Nat} {f : F} {nx : Int} {L : List NS} {w : World}
theorem Gives.weak {α : Type} {F : Fence} {n : Nat} {P : Program} {g : Nat} {lb : Array Value} {encs : α → Array Value} {Inv Inv' : List α → World → Prop} {xs : List α} {w : World} (h : Y.Gives F n P g lb encs Inv xs w) (hi : ∀ pre A, Inv' pre A → Inv pre A) : Y.Gives F n P g lb encs Inv' xs w :=
  fun l J Jx W hW hJ hJx hInv hY h0 => h l J Jx W hW hJ hJx (fun pre A hj => hi _ _ (hInv pre A hj)) hY h0
/-- The loop over all below a node, it with it. -/
theorem down_all (h : Hid (TreeIn B tb mb f nx L w)) (hf : Hid (Fine f)) (id : Int) (hw : wfI id) {b1 b2 : Nat} (c1 : Hid (w.cell? ⟨b1, 0, none⟩ = some (.pointer (some ⟨tb, 0, none⟩)))) (c2 : Hid (w.cell? ⟨b2, 0, none⟩ = some (.int .i64 id))) (n : Nat) :
    ∃ q, (∀ e ∈ ents (sub f id) q, e ∈ T.ents f 0) ∧ Y.Gives Fence.wide n Tryd.prog 45 #[.pointer (some ⟨b1, 0, none⟩), .pointer (some ⟨b2, 0, none⟩)] encV (InvD tb mb b1 b2 L id) (walkF (slotOf L) (sub f id) 0 q) w := by
  obtain ⟨q, hq⟩ := ents_sub f 0 id hf.out.nd
  refine ⟨q, hq, ?_⟩
  by_cases hi : id ∈ ids f
  · obtain ⟨x, k, hs⟩ := sub_one f id hf.out.nd hi
    have hn := sub_nodup f id hf.out.nd
    have hm := sub_ids_sub f id hf.out.nd
    have hl := hf.out.len
    rw [hs] at hq hn hm ⊢
    exact down_gives (hid fun e he => h.out.ent e (hq e he)) (hid hn.1) (hid fun i hi => hf.out.wf i (hm i hi)) (hid (by omega)) n w
  · rw [sub_none f id hi, walk_none]
    rcases h.out.find id with ⟨_, h2⟩ | ⟨_, _, _, _, _, h4, _⟩
    · exact Gives.weak (down_none h (hid h2) hw c1 c2 n) (fun _ _ _ => trivial)
    · exact absurd h4 hi
/-- Between two rounds of Order. -/
def IOrd (tb : Nat) (r : Int) (w : World) (pre : List V) (W : World) : Prop :=
  ((∃ v, Boxed W w.heap.size 36 v ∧ W.ownsRow w.heap.size 3 1 v pre.length (encK (pre.map (·.2.1.id))) ∧ ∀ r, v.ownBlock = some r → w.heap.size + 3 ≤ r) ∧ W.cell? ⟨w.heap.size + 1, 0, none⟩ = some (.pointer (some ⟨tb, 0, none⟩)) ∧ W.cell? ⟨w.heap.size + 1 + 1, 0, none⟩ = some (.int .i64 r)) ∧ Below w.heap.size w W
theorem IOrd.own {tb : Nat} {r : Int} {w : World} {B : Nat} (hB : w.heap.size ≤ B) : OwnFrom B (IOrd tb r w) :=
  OwnFrom.and (OwnFrom.and (Own.from (holdsRow_own _ _ _ _ _ (fun pre : List V => pre.length) (fun pre => encK (pre.map (·.2.1.id))) (fun _ v => ∀ r, v.ownBlock = some r → w.heap.size + 3 ≤ r)) _) (OwnFrom.and (Own.from (fun _ _ _ _ hs hg hr => cell_kept hs hg hr) _) (Own.from (fun _ _ _ _ hs hg hr => cell_kept hs hg hr) _))) (ownFrom_below (Nat.le_refl _) hB)
theorem IOrd.look {r : Int} {pre : List V} {W : World} (h : TreeIn B tb mb f nx L w) (hi : IOrd tb r w pre W) : InvD tb mb (w.heap.size + 1) (w.heap.size + 1 + 1) L r pre W := ⟨(h.below hi.2).look pre, hi.1.2.1, hi.1.2.2⟩
theorem encK_snoc (pre : List V) (x : V) : encK ((pre ++ [x]).map (·.2.1.id)) = encK (pre.map (·.2.1.id)) ++ [.int .i64 x.2.1.id] := by simp [encK]
set_option maxRecDepth 100000 in
set_option maxHeartbeats 2000000 in
theorem order_any (h : Hid (TreeIn B tb mb f nx L w)) (hf : Hid (Fine f)) (hr : wfI (rootF f)) (hB : B ≤ w.heap.size) :
    Calls Tryd.prog 14 #[.pointer (some ⟨tb, 0, none⟩)] w fun e w' => ∃ V, e = .returned V ∧ IntRow w.heap.size V (ids (sub f (rootF f))) w' ∧ Below w.heap.size w w' := by
  obtain ⟨c0, c1, c2⟩ := h.out.cells
  obtain ⟨i0, I0, I1, I2, I3⟩ := info_parts infoInt
  have htb := lt_of_block h.out.top
  have W1 := (((Below.refl w.heap.size w).alloc (Nat.le_refl _) (.cells #[.slice none 0 0] 36)).alloc (by simp) (.cells #[.pointer (some ⟨tb, 0, none⟩)] 23)).alloc (by simp; omega) (.cells #[.int .i64 (rootF f)] 3)
  have hbx : Boxed (((w.alloc (.cells #[.slice none 0 0] 36)).alloc (.cells #[.pointer (some ⟨tb, 0, none⟩)] 23)).alloc (.cells #[.int .i64 (rootF f)] 3)) w.heap.size 36 (.slice none 0 0) := ((Boxed.new w _ _).alloc _).alloc _
  have hb1 : Boxed (((w.alloc (.cells #[.slice none 0 0] 36)).alloc (.cells #[.pointer (some ⟨tb, 0, none⟩)] 23)).alloc (.cells #[.int .i64 (rootF f)] 3)) (w.heap.size + 1) 23 (.pointer (some ⟨tb, 0, none⟩)) := by
    have := (Boxed.new (w.alloc (.cells #[.slice none 0 0] 36)) 23 (.pointer (some ⟨tb, 0, none⟩))).alloc (.cells #[.int .i64 (rootF f)] 3)
    rw [World.size_alloc] at this
    exact this
  have hb2 : Boxed (((w.alloc (.cells #[.slice none 0 0] 36)).alloc (.cells #[.pointer (some ⟨tb, 0, none⟩)] 23)).alloc (.cells #[.int .i64 (rootF f)] 3)) (w.heap.size + 1 + 1) 3 (.int .i64 (rootF f)) := by
    have := Boxed.new ((w.alloc (.cells #[.slice none 0 0] 36)).alloc (.cells #[.pointer (some ⟨tb, 0, none⟩)] 23)) 3 (.int .i64 (rootF f))
    rw [World.size_alloc, World.size_alloc] at this
    exact this
  refine (callsIn_wide (n := 3)).1 ?_
  refine callsIn_of_wp_marks Tryd.func14 rfl trivial ?_ rfl
  simp only [Tryd.ntmps14, List.size_toArray, List.length_cons, List.length_nil, Nat.reduceAdd, Nat.reduceSub, Array.replicate_succ, Array.replicate_zero, List.push_toArray, List.append_toArray, List.nil_append, List.cons_append]
  gi_wp2_with (refine ⟨trivial, (callsIn_wide.2 (downward_any _ _)).mono ?_⟩; rintro e w' ⟨rfl, rfl⟩)
  obtain ⟨W0, hW0⟩ : ∃ W0, ((w.alloc (.cells #[.slice none 0 0] 36)).alloc (.cells #[.pointer (some ⟨tb, 0, none⟩)] 23)).alloc (.cells #[.int .i64 (rootF f)] 3) = W0 := ⟨_, rfl⟩
  have hs0 : W0.heap.size = w.heap.size + 3 := by rw [← hW0]; simp
  rw [hW0] at W1 hbx hb1 hb2 ⊢
  obtain ⟨q, hq, hG⟩ := down_all (hid (h.out.below W1)) hf (rootF f) hr (hid hb1.cell) (hid hb2.cell) (3 - 1)
  have hmem : ∀ x ∈ walkF (slotOf L) (sub f (rootF f)) 0 q, (x.2.1, x.2.2) ∈ L := by
    intro x hx
    have h1 := List.mem_map_of_mem (f := fun y : V => y.2) hx
    rw [walk_ents] at h1
    obtain ⟨e, he, hxe⟩ := List.mem_map.1 h1
    have := h.out.ent e (hq e he)
    rw [hxe] at this
    exact this
  have hlen : (walkF (slotOf L) (sub f (rootF f)) 0 q).length ≤ 100000 := by
    have := (sub_nodup f (rootF f) hf.out.nd).2
    have := hf.out.len
    rw [walk_len]
    omega
  clear c0 c1 c2 htb
  refine Y.range_law rfl (by omega) (gf := 45) (lb := #[.pointer (some ⟨w.heap.size + 1, 0, none⟩), .pointer (some ⟨w.heap.size + 1 + 1, 0, none⟩)]) rfl trivial (enters_of Tryd.func45 (by kernel_rfl) rfl) hG (Below.refl _ _) (fun _ => rfl)
    (IOrd tb (rootF f) w) (fun _ _ _ => False) (IOrd.own (by omega)) (fun _ _ _ _ _ hs _ _ => hs) (fun pre A hi => hi.look h.out)
    ⟨⟨⟨_, hbx, World.ownsRow_nil .., fun r e => (by cases e)⟩, hb1.cell, hb2.cell⟩, W1⟩
    (fun x a' W => a' = { tmps := #[.pointer (some ⟨tb, 0, none⟩), undef, .slice none 0 0, .pointer (some ⟨w.heap.size, 0, none⟩), undef, .pointer (some ⟨x.2.2.g, 0, none⟩), .pointer (some ⟨tb, 0, none⟩), .pointer (some ⟨tb, 0, none⟩), .pointer (some ⟨tb, 0, none⟩), .pointer (some ⟨tb, 1, none⟩), .int .i64 (rootF f), .func (.func 45) #[] #[.pointer (some ⟨w.heap.size + 1, 0, none⟩), .pointer (some ⟨w.heap.size + 1 + 1, 0, none⟩)], .int .i64 x.1, .pointer (some ⟨x.2.2.g, 0, none⟩), undef, undef, undef, undef, undef, undef, undef, undef, undef], defers := [] })
    (fun x a' _ _ _ _ hs _ _ => hs) ?assign ?body ?done ?stop
  case assign =>
    intro l pre x W K hi hK
    dsimp only [encV]
    gi_wp2
    exact hK _ _ ((KeepsOthers.refl _).from _) hi rfl
  case body =>
    rintro l pre x a' W hl hrr ⟨⟨⟨v, hv, hrow, hfar⟩, i1, i2⟩, hbel⟩ rfl hp
    have hxm := hmem x (hp.subset (by simp))
    have hn := (h.out.below hbel).graph.nodes _ hxm
    obtain ⟨d0, _⟩ := hn.cells
    have hpl : pre.length + 1 ≤ 100000 := by have := hp.length_le; simp at this; omega
    have S0 : Hid (W.drew.cell? ⟨w.heap.size, 0, none⟩ = some v ∧ W.drew.cell? ⟨x.2.2.g, 0, none⟩ = some (.int .i64 x.2.1.id)) := hid ⟨hv.cell, d0⟩
    have hg := World.block_lt_of_cell? W ⟨x.2.2.g, 0, none⟩ d0
    have hg0 : x.2.2.g < w.heap.size := lt_of_block (h.out.graph.nodes _ hxm).cell
    have S1 : Hid ((W.drew.alloc (.cells #[.int .i64 x.2.1.id] 3)).cell? ⟨w.heap.size, 0, none⟩ = some v ∧ (W.drew.alloc (.cells #[.int .i64 x.2.1.id] 3)).cell? ⟨x.2.2.g, 0, none⟩ = some (.int .i64 x.2.1.id)) := hid ⟨((show Boxed W.drew w.heap.size 36 v from hv).alloc _).cell, (World.cell?_of_block (Below.heap_alloc W.drew _ _ hg)).trans d0⟩
    have hrow' : W.drew.ownsRow w.heap.size 3 1 v pre.length (encK (pre.map (·.2.1.id))) := hrow
    have hx0 : B ≤ W.drew.heap.size := by have := hbel.size; simp; omega
    gi_wp2_with fail
    refine till_round (z := 8) (S := fun w' => w'.cell? ⟨w.heap.size, 0, none⟩ = some v ∧ w'.cell? ⟨x.2.2.g, 0, none⟩ = some (.int .i64 x.2.1.id)) (by kernel_rfl) (by kernel_rfl) ?_
    refine till_take (i := 0) (v := ?_) rfl (by kernel_rfl) (by kernel_rfl) (by kernel_rfl) (by kernel_rfl) (fun _ _ _ h => h) (Or.inl ⟨by rfl, ?_⟩) S0.out ?_
    rotate_left
    · intro w' hs; obtain ⟨s1, s2⟩ := hs; go_simp; (try with_reducible rfl)
    refine till_free (i := 1) (v := ?_) rfl (by kernel_rfl) (by kernel_rfl) (by kernel_rfl) (by kernel_rfl) (fun _ _ _ h => h) (Or.inl ⟨by rfl, ?_⟩) S0.out ?_
    rotate_left
    · intro w' hs; go_simp; (try with_reducible rfl)
    refine till_free (i := 2) (v := ?_) rfl (by kernel_rfl) (by kernel_rfl) (by kernel_rfl) (by kernel_rfl) (fun _ _ _ h => h) (Or.inl ⟨by rfl, ?_⟩) S0.out ?_
    rotate_left
    · intro w' hs; go_simp; (try with_reducible rfl)
    refine till_free (i := 3) (v := ?_) rfl (by kernel_rfl) (by kernel_rfl) (by kernel_rfl) (by kernel_rfl) (fun _ _ _ h => h) (Or.inl ⟨by rfl, ?_⟩) S0.out ?_
    rotate_left
    · intro w' hs; go_simp; (try with_reducible rfl)
    refine till_free (i := 4) (v := ?_) rfl (by kernel_rfl) (by kernel_rfl) (by kernel_rfl) (by kernel_rfl) (fun _ _ _ h => h) (Or.inl ⟨by rfl, ?_⟩) S0.out ?_
    rotate_left
    · intro w' hs; go_simp; (try with_reducible rfl)
    refine till_take (i := 5) (v := ?_) rfl (by kernel_rfl) (by kernel_rfl) (by kernel_rfl) (by kernel_rfl) (fun _ _ _ h => h) (Or.inl ⟨by rfl, ?_⟩) S0.out ?_
    rotate_left
    · intro w' hs; obtain ⟨s1, s2⟩ := hs; go_simp; (try with_reducible rfl)
    refine till_value (i := 6) (v := .slice (some ⟨W.drew.heap.size, 0, none⟩) 1 1) (w' := W.drew.alloc (.cells #[.int .i64 x.2.1.id] 3)) (by kernel_rfl) rfl rfl ?_ S1.out ?_
    · go_simp
    refine till_one (i := 7) (by kernel_rfl) rfl fun K hK => ?_
    refine step_append_lies _ rfl (.tmp 14) (.tmp 20) 36 rfl w.heap.size 3 i0 (.int .i64 0) 1 8 Tryd.underlying36 I0 I1 I2 I3 rfl (by decide) v pre.length (encK (pre.map (·.2.1.id))) (by kernel_rfl) (hrow'.alloc _) ⟨W.drew.heap.size, 0, none⟩ 1 1 [.int .i64 x.2.1.id] (by kernel_rfl) rfl (World.news_of_block (heap_alloc_new W.drew _)) (by intro u hu; simp only [List.mem_cons, List.not_mem_nil, or_false] at hu; rcases hu with rfl; rfl) (by decide) (by unfold maxLen; omega) (by omega) (by have := hbel.size; simp; omega) _ rfl ?_
    intro g cap w1 hown hgrow hat hlt
    obtain ⟨z1, z2, z3, z4, z5⟩ := (show Boxed W.drew w.heap.size 36 v from hv).appended (by decide) hrow' (by simpa using hbel.size) (Nat.le_refl _) hown hgrow
    have far : ∀ b, b < w.heap.size + 3 → w1.heap[b]? = W.heap[b]? := fun b hb => by
      have hWs := World.block_lt_of_cell? W _ i2
      have hWs : w.heap.size + 1 + 1 < W.heap.size := hWs
      exact (hgrow.block b (by simp; omega) (fun e => by have := hfar b e.symm; omega)).trans (Below.heap_alloc W.drew _ b (show b < W.heap.size by omega))
    have S2 : Hid (w1.cell? ⟨w.heap.size, 0, none⟩ = some v ∧ w1.cell? ⟨x.2.2.g, 0, none⟩ = some (.int .i64 x.2.1.id)) := hid ⟨z1.cell, (World.cell?_of_block (far x.2.2.g (by omega))).trans d0⟩
    refine hK.out _ _ (fun _ _ => S2.out) ?_
    clear hK K
    refine till_store (i := 8) (by kernel_rfl) rfl rfl 36 (.tmp 3) (.tmp 21) rfl (.pointer (some ⟨w.heap.size, 0, none⟩)) (.slice (some ⟨g, 0, none⟩) (pre.length + 1) cap) ?_ ?_ (w' := w1.setCell ⟨w.heap.size, 0, none⟩ (.slice (some ⟨g, 0, none⟩) (pre.length + 1) cap)) ?_ (fun h => absurd rfl h) ?_
    · kernel_rfl
    · kernel_rfl
    · have e1 := z1.cell
      have e2 := z1.frozen
      simp [Instr.storeAt, go_sem, e1, e2]
    refine till_done (by kernel_rfl) ?_ _
    show KeepsFrom W0.heap.size W _ ∧ IOrd tb (rootF f) w (pre ++ [x]) _
    refine ⟨((KeepsOthers.drew W).trans z4).from _, ⟨⟨_, z2, ?_, ?_⟩, ?_, ?_⟩, hbel.trans ((Below.refl _ W).drew.trans z5)⟩
    · rw [encK_snoc, List.length_append]
      exact z3
    · rintro r e
      have hWs := World.block_lt_of_cell? W _ i2
      have hWs : w.heap.size + 1 + 1 < W.heap.size := hWs
      simp only [Value.ownBlock, Option.some.injEq] at e
      subst e
      rcases hat with h1 | h1
      · exact hfar _ h1
      · rw [h1]; simp; omega
    · rw [World.cell?_of_block (Below.heap_setCell w1 ⟨w.heap.size, 0, none⟩ _ (w.heap.size + 1) (by simp)), World.cell?_of_block (far (w.heap.size + 1) (by omega))]
      exact i1
    · rw [World.cell?_of_block (Below.heap_setCell w1 ⟨w.heap.size, 0, none⟩ _ (w.heap.size + 1 + 1) (by simp; omega)), World.cell?_of_block (far (w.heap.size + 1 + 1) (by omega))]
      exact i2
  case done =>
    rintro D W hD ⟨⟨⟨v, hv, hrow, hfar⟩, i1, i2⟩, hbel⟩ hK
    have hvc := hv.cell
    gi_wp2
    refine ⟨by simp, .inl ⟨_, _, rfl, run_takeDeferred hK, ?_⟩⟩
    refine ⟨_, results_tmp rfl _ _ _, v, rfl, ?_, hbel.trans (belowK_b (w := w) (Nat.le_refl _) W D _ _ (by omega) hK rfl rfl)⟩
    have := ownsRow_putObj hrow (.deferred none) hK rfl
    have e1 : (encK (ids (sub f (rootF f)))) = encK ((walkF (slotOf L) (sub f (rootF f)) 0 q).map (·.2.1.id)) := by rw [walk_ids]
    have e2 : (ids (sub f (rootF f))).length = (walkF (slotOf L) (sub f (rootF f)) 0 q).length := (walk_len _ _ _ _).symm
    unfold IntRow
    rw [e1, e2]
    exact this
  case stop =>
    rintro D c pre W _ _ hx _
    exact hx.elim
end
end N
end Go.Proofs.YtidccohjehegjaaDoor
