/- The walk of grove's Items: what stands below a node, in rows of the call's own. -/
import Derived.Test.YtidccohjehegjaaDoorK11
import Derived.Test.YtidccohjehegjaaDoorK10
namespace Go.Proofs.YtidccohjehegjaaDoor
open Go.RowKit Go.Shelf
attribute [local go_sem] Oper.semAt_some
namespace N
open T
theorem infoT : (Tryd.prog.info? 49).map (fun i => (i.zero, i.size, i.bytes)) = some (some (.agg #[.int .i64 0, .int .i64 0, .string ⟨#[]⟩, .string ⟨#[]⟩, .slice none 0 0]), 5, 72) := by kernel_rfl
/-- Two rows of other types lie apart. -/
theorem apart {w : World} {b b' : Nat} {e e' : TypeId} {s s' n n' : Nat} {v v' : Value} {xs xs' : List Value} (h : w.ownsRow b e s v n xs) (h' : w.ownsRow b' e' s' v' n' xs') (hne : e ≠ e') : v.ownBlock = none ∨ v.ownBlock ≠ v'.ownBlock := by
  rcases h.2 with ⟨rfl, _⟩ | ⟨g, cap, cur, rfl, _, q2, _⟩
  · exact Or.inl rfl
  · right
    rcases h'.2 with ⟨rfl, _⟩ | ⟨g', cap', cur', rfl, _, q2', _⟩
    · simp [Value.ownBlock]
    · intro e9
      simp only [Value.ownBlock, Option.some.injEq] at e9
      rw [← e9, q2] at q2'
      simp only [Option.some.injEq, Obj.cells.injEq] at q2'
      exact hne q2'.2.1
/-- A row abides what turns no cells. -/
theorem row_own {A B : World} {b : Nat} {e : TypeId} {s n : Nat} {v : Value} {xs : List Value} {row : Option Nat} (h : A.ownsRow b e s v n xs) (hg : A.grownBy B row) (hr : ∀ r, row = some r → ∃ o : Obj, A.heap[r]? = some o ∧ o.isCells = false) : B.ownsRow b e s v n xs := by
  refine h.kept hg ?_
  rcases h.2 with ⟨rfl, _⟩ | ⟨g, cap, cur, rfl, _, hgb, _⟩
  · exact .inl rfl
  · refine .inr fun e' => ?_
    obtain ⟨o, ho, hc⟩ := hr g (by simpa [Value.ownBlock] using e'.symm)
    rw [hgb] at ho; cases ho; cases hc
/-- One more item of one's own. -/
theorem item_push {w wr Z w6 : World} {V3 va : Value} {lg : List IV} {x : P.Itm} {ob : Obj} {g' cap' : Nat} (hrow : ItmRow w.heap.size V3 lg wr) (hb : Below w.heap.size w wr) (hz : Below wr.heap.size wr Z) (hva : Z.ownsRow w.heap.size 79 2 va x.attrs.length (encL x.attrs)) (hown : w6.ownsRow w.heap.size 49 5 (.slice (some ⟨g', 0, none⟩) (lg.length + 1) cap') (lg.length + 1) (encI lg ++ encI1 (x, va))) (hgrow : World.grownBy (Z.alloc ob) w6 V3.ownBlock) :
    ItmRow w.heap.size (.slice (some ⟨g', 0, none⟩) (lg.length + 1) cap') (lg ++ [(x, va)]) w6 ∧ Below w.heap.size w w6 := by
  have hrz := hrow.below hz
  have hbz := hb.trans (hz.mono hb.size)
  have hA : Below Z.heap.size Z (Z.alloc ob) := (Below.refl _ Z).alloc (Nat.le_refl _) ob
  refine ⟨⟨by rw [encI_snoc, List.length_append]; exact hown, fun y hy => ?_⟩, (hbz.trans (hA.mono hbz.size)).grown hgrow (Nat.le_trans hbz.size hA.size) (fun k hk => ?_)⟩
  · have keep : ∀ {y : Value} {q : Nat} {xs : List Value}, Z.ownsRow w.heap.size 79 2 y q xs → w6.ownsRow w.heap.size 79 2 y q xs := fun h => World.ownsRow.kept (World.ownsRow.alloc h _) hgrow (apart h hrz.1 (by decide))
    rcases List.mem_append.1 hy with hy | hy
    · exact keep (hrz.2 y hy)
    · simp only [List.mem_singleton] at hy
      subst hy
      exact keep hva
  · rcases hrow.1.2 with ⟨rfl, _⟩ | ⟨q, _, _, rfl, hq, _⟩
    · cases hk
    · simp only [Value.ownBlock, Option.some.injEq] at hk
      omega
/-- What has come, as items. -/
def itemsOf (pre : List V) : List P.Itm := pre.map fun x => atL x.2.1.x x.1
section
variable {B tb mb : Nat} {f : F} {nx : Int} {L : List NS} {w : World}
/-- Between two rounds of Items. -/
def IItm (tb : Nat) (id : Int) (w : World) (pre : List V) (W : World) : Prop :=
  ((∃ v l, Boxed W w.heap.size 27 v ∧ ItmRow w.heap.size v l W ∧ l.map (·.1) = itemsOf pre) ∧ Boxed W (w.heap.size + 1) 23 (.pointer (some ⟨tb, 0, none⟩)) ∧ Boxed W (w.heap.size + 1 + 1) 3 (.int .i64 id)) ∧ Below w.heap.size w W
theorem IItm.own {tb : Nat} {id : Int} {w : World} {B : Nat} (hB : w.heap.size ≤ B) : OwnFrom B (IItm tb id w) := by
  refine OwnFrom.and (OwnFrom.and (Own.from ?_ _) (OwnFrom.and (Own.from (boxed_own _ _ fun _ => Value.pointer (some ⟨tb, 0, none⟩)) _) (Own.from (boxed_own _ _ fun _ => Value.int .i64 id) _))) (ownFrom_below (Nat.le_refl _) hB)
  rintro s X Y row ⟨v, l, h1, h2, h3⟩ hg hr
  exact ⟨v, l, boxed_own _ _ (fun _ : Unit => v) () X Y row h1 hg hr, ⟨row_own h2.1 hg hr, fun y hy => row_own (h2.2 y hy) hg hr⟩, h3⟩
theorem IItm.look {id : Int} {pre : List V} {W : World} (h : TreeIn B tb mb f nx L w) (hi : IItm tb id w pre W) : InvD tb mb (w.heap.size + 1) (w.heap.size + 1 + 1) L id pre W := ⟨(h.below hi.2).look pre, hi.1.2.1.cell, hi.1.2.2.cell⟩
theorem itemsOf_rows (sl : Int → Slot) (f : F) (n q : Int) : itemsOf (walkF sl f n q) = (rows f n).map (·.2) := by
  rw [← walk_rows sl f n q, List.map_map]
  rfl
theorem boxes3 (w : World) (t0 t1 t2 : TypeId) (v0 v1 v2 : Value) {W : World} (h : ((w.alloc (.cells #[v0] t0)).alloc (.cells #[v1] t1)).alloc (.cells #[v2] t2) = W) :
    Boxed W w.heap.size t0 v0 ∧ Boxed W (w.heap.size + 1) t1 v1 ∧ Boxed W (w.heap.size + 1 + 1) t2 v2 ∧ W.heap.size = w.heap.size + 3 ∧ Below w.heap.size w W := by
  subst h
  refine ⟨((Boxed.new w _ _).alloc _).alloc _, ?_, ?_, by simp, (((Below.refl _ w).alloc (Nat.le_refl _) _).alloc (by simp) _).alloc (by simp; omega) _⟩
  · have := (Boxed.new (w.alloc (.cells #[v0] t0)) t1 v1).alloc (.cells #[v2] t2)
    rw [World.size_alloc] at this
    exact this
  · have := Boxed.new ((w.alloc (.cells #[v0] t0)).alloc (.cells #[v1] t1)) t2 v2
    rw [World.size_alloc, World.size_alloc] at this
    exact this
set_option maxRecDepth 100000 in
set_option maxHeartbeats 2000000 in
theorem items_any (h : Hid (TreeIn B tb mb f nx L w)) (hf : Hid (Fine f)) (hat : Hid (∀ e ∈ T.ents f 0, e.x.attrs.length ≤ 100000)) (id : Int) (hr : wfI id) :
    Calls Tryd.prog 10 #[.pointer (some ⟨tb, 0, none⟩), .int .i64 id] w fun e w' => ∃ V l, e = .returned V ∧ ItmRow w.heap.size V l w' ∧ l.map (·.1) = (rows (sub f id) 0).map (·.2) ∧ Below w.heap.size w w' := by
  obtain ⟨i0, I0, I1, I2, I3⟩ := info_parts infoT
  refine (callsIn_wide (n := 3)).1 ?_
  refine callsIn_of_wp_marks Tryd.func10 rfl trivial ?_ rfl
  simp only [Tryd.ntmps10, List.size_toArray, List.length_cons, List.length_nil, Nat.reduceAdd, Nat.reduceSub, Array.replicate_succ, Array.replicate_zero, List.push_toArray, List.append_toArray, List.nil_append, List.cons_append]
  gi_wp2_with (refine ⟨trivial, (callsIn_wide.2 (downward_any _ _)).mono ?_⟩; rintro e w' ⟨rfl, rfl⟩)
  obtain ⟨W0, hW0⟩ : ∃ W0, ((w.alloc (.cells #[.slice none 0 0] 27)).alloc (.cells #[.pointer (some ⟨tb, 0, none⟩)] 23)).alloc (.cells #[.int .i64 id] 3) = W0 := ⟨_, rfl⟩
  rw [hW0]
  obtain ⟨hbx, hb1, hb2, hs0, W1⟩ := boxes3 w _ _ _ _ _ _ hW0
  clear hW0
  obtain ⟨q, hq, hG⟩ := down_all (hid (h.out.below W1)) hf id hr (hid hb1.cell) (hid hb2.cell) (3 - 1)
  have hmem : ∀ x ∈ walkF (slotOf L) (sub f id) 0 q, (x.2.1, x.2.2) ∈ L ∧ x.2.1.x.attrs.length ≤ 100000 := by
    intro x hx
    have h1 := List.mem_map_of_mem (f := fun y : V => y.2) hx
    rw [walk_ents] at h1
    obtain ⟨e, he, hxe⟩ := List.mem_map.1 h1
    have := h.out.ent e (hq e he)
    have h3 := hat.out e (hq e he)
    rw [hxe] at this
    refine ⟨this, ?_⟩
    rw [← hxe]
    exact h3
  have hlen : (walkF (slotOf L) (sub f id) 0 q).length ≤ 100000 := by
    have := (sub_nodup f id hf.out.nd).2
    have := hf.out.len
    rw [walk_len]
    omega
  refine Y.range_law rfl (by omega) (gf := 45) (lb := #[.pointer (some ⟨w.heap.size + 1, 0, none⟩), .pointer (some ⟨w.heap.size + 1 + 1, 0, none⟩)]) rfl trivial (enters_of Tryd.func45 (by kernel_rfl) rfl) hG (Below.refl _ _) (fun _ => rfl)
    (IItm tb id w) (fun _ _ _ => False) (IItm.own (by omega)) (fun _ _ _ _ _ hs _ _ => hs) (fun pre A hi => hi.look h.out)
    ⟨⟨⟨_, [], hbx, ⟨World.ownsRow_nil .., fun y hy => absurd hy (List.not_mem_nil)⟩, rfl⟩, hb1, hb2⟩, W1⟩
    (fun x a' W => a' = { tmps := #[.pointer (some ⟨tb, 0, none⟩), .int .i64 id, undef, undef, .slice none 0 0, .pointer (some ⟨w.heap.size, 0, none⟩), .int .i64 x.1, .pointer (some ⟨x.2.2.g, 0, none⟩), .pointer (some ⟨tb, 0, none⟩), .int .i64 id, .func (.func 45) #[] #[.pointer (some ⟨w.heap.size + 1, 0, none⟩), .pointer (some ⟨w.heap.size + 1 + 1, 0, none⟩)], .int .i64 x.1, .pointer (some ⟨x.2.2.g, 0, none⟩), undef, undef, undef, undef, undef, undef, undef, undef, undef, undef, undef, undef, undef, undef, undef, undef, undef, undef, undef, undef, undef, undef, undef, undef, undef, undef, undef], defers := [] })
    (fun x a' _ _ _ _ hs _ _ => hs) ?assign ?body ?done ?stop
  case assign =>
    intro l pre x W K hi hK
    dsimp only [encV]
    gi_wp2
    exact hK _ _ ((KeepsOthers.refl _).from _) hi rfl
  case body =>
    rintro l pre x a' W hl hrr ⟨⟨⟨v, lg, hv, hrow, hlg⟩, i1, i2⟩, hbel⟩ rfl hp
    have hxm := hmem x (hp.subset (by simp))
    have hn := (h.out.below hbel).graph.nodes _ hxm.1
    obtain ⟨d0, d1, d2, d3, d4, d5, d6, d7⟩ := hn.cells
    obtain ⟨aa, ac, hav⟩ := slice_of hn.attrs
    dsimp only at d2 d4 d5 d6 hav
    have hnA := hn.attrs
    dsimp only at hnA
    rw [hav] at d6 hnA
    have hpl : pre.length + 1 ≤ 100000 := by have := hp.length_le; simp at this; omega
    have hlen2 : lg.length = pre.length := by
      have := congrArg List.length hlg
      rw [List.length_map, itemsOf, List.length_map] at this
      exact this
    have e0 := hv.cell
    have OF := own_any (.slice aa x.2.1.x.attrs.length ac) x.2.1.x.attrs W.drew (hid (attrs_in (base := B) (show W.drew.ownsRow B 79 2 (.slice aa x.2.1.x.attrs.length ac) x.2.1.x.attrs.length (encL x.2.1.x.attrs) from hnA))) (by have := hxm.2; omega)
    have S0 : Hid (W.drew.cell? ⟨w.heap.size, 0, none⟩ = some v ∧ W.drew.cell? ⟨x.2.2.g, 2, none⟩ = some (.int .i64 x.2.1.x.kind) ∧ W.drew.cell? ⟨x.2.2.g, 4, none⟩ = some (.string x.2.1.x.name) ∧ W.drew.cell? ⟨x.2.2.g, 5, none⟩ = some (.string x.2.1.x.text) ∧ W.drew.cell? ⟨x.2.2.g, 6, none⟩ = some (.slice aa x.2.1.x.attrs.length ac)) := hid ⟨e0, d2, d4, d5, d6⟩
    have hgl : x.2.2.g < w.heap.size := lt_of_block (h.out.graph.nodes _ hxm.1).cell
    have hWs : w.heap.size ≤ W.heap.size := hbel.size
    have hbs : w.heap.size < W.heap.size := hv.lt
    have five : ∀ w' : World, w'.heap[w.heap.size]? = W.heap[w.heap.size]? → w'.heap[x.2.2.g]? = W.heap[x.2.2.g]? → (w'.cell? ⟨w.heap.size, 0, none⟩ = some v ∧ w'.cell? ⟨x.2.2.g, 2, none⟩ = some (.int .i64 x.2.1.x.kind) ∧ w'.cell? ⟨x.2.2.g, 4, none⟩ = some (.string x.2.1.x.name) ∧ w'.cell? ⟨x.2.2.g, 5, none⟩ = some (.string x.2.1.x.text) ∧ w'.cell? ⟨x.2.2.g, 6, none⟩ = some (.slice aa x.2.1.x.attrs.length ac)) := fun w' k1 k2 =>
      ⟨(World.cell?_of_block k1).trans e0, (World.cell?_of_block k2).trans d2, (World.cell?_of_block k2).trans d4, (World.cell?_of_block k2).trans d5, (World.cell?_of_block k2).trans d6⟩
    clear d0 d1 d3 d7 hn hnA e0 d2 d4 d5 d6
    gi_wp2_with fail
    refine till_round (z := 26) (S := fun w' => w'.cell? ⟨w.heap.size, 0, none⟩ = some v ∧ w'.cell? ⟨x.2.2.g, 2, none⟩ = some (.int .i64 x.2.1.x.kind) ∧ w'.cell? ⟨x.2.2.g, 4, none⟩ = some (.string x.2.1.x.name) ∧ w'.cell? ⟨x.2.2.g, 5, none⟩ = some (.string x.2.1.x.text) ∧ w'.cell? ⟨x.2.2.g, 6, none⟩ = some (.slice aa x.2.1.x.attrs.length ac)) (by kernel_rfl) (by kernel_rfl) ?_
    refine till_take (i := 0) (v := ?_) rfl (by kernel_rfl) (by kernel_rfl) (by kernel_rfl) (by kernel_rfl) (fun _ _ _ h => h) (Or.inl ⟨by rfl, ?_⟩) S0.out ?_
    rotate_left
    · intro w' hs; obtain ⟨s0, s2, s4, s5, s6⟩ := hs; go_simp; (try with_reducible rfl)
    refine till_free (i := 1) (v := ?_) rfl (by kernel_rfl) (by kernel_rfl) (by kernel_rfl) (by kernel_rfl) (fun _ _ _ h => h) (Or.inl ⟨by rfl, ?_⟩) S0.out ?_
    rotate_left
    · intro w' hs; go_simp; (try with_reducible rfl)
    refine till_free (i := 2) (v := ?_) rfl (by kernel_rfl) (by kernel_rfl) (by kernel_rfl) (by kernel_rfl) (fun _ _ _ h => h) (Or.inl ⟨by rfl, ?_⟩) S0.out ?_
    rotate_left
    · intro w' hs; go_simp; (try with_reducible rfl)
    refine till_free (i := 3) (v := ?_) rfl (by kernel_rfl) (by kernel_rfl) (by kernel_rfl) (by kernel_rfl) (fun _ _ _ h => h) (Or.inl ⟨by rfl, ?_⟩) S0.out ?_
    rotate_left
    · intro w' hs; go_simp; (try with_reducible rfl)
    refine till_free (i := 4) (v := ?_) rfl (by kernel_rfl) (by kernel_rfl) (by kernel_rfl) (by kernel_rfl) (fun _ _ _ h => h) (Or.inl ⟨by rfl, ?_⟩) S0.out ?_
    rotate_left
    · intro w' hs; go_simp; (try with_reducible rfl)
    refine till_free (i := 5) (v := ?_) rfl (by kernel_rfl) (by kernel_rfl) (by kernel_rfl) (by kernel_rfl) (fun _ _ _ h => h) (Or.inl ⟨by rfl, ?_⟩) S0.out ?_
    rotate_left
    · intro w' hs; go_simp; (try with_reducible rfl)
    refine till_take (i := 6) (v := ?_) rfl (by kernel_rfl) (by kernel_rfl) (by kernel_rfl) (by kernel_rfl) (fun _ _ _ h => h) (Or.inl ⟨by rfl, ?_⟩) S0.out ?_
    rotate_left
    · intro w' hs; obtain ⟨s0, s2, s4, s5, s6⟩ := hs; go_simp; (try with_reducible rfl)
    refine till_free (i := 7) (v := ?_) rfl (by kernel_rfl) (by kernel_rfl) (by kernel_rfl) (by kernel_rfl) (fun _ _ _ h => h) (Or.inl ⟨by rfl, ?_⟩) S0.out ?_
    rotate_left
    · intro w' hs; go_simp; (try with_reducible rfl)
    refine till_free (i := 8) (v := ?_) rfl (by kernel_rfl) (by kernel_rfl) (by kernel_rfl) (by kernel_rfl) (fun _ _ _ h => h) (Or.inl ⟨by rfl, ?_⟩) S0.out ?_
    rotate_left
    · intro w' hs; go_simp; (try with_reducible rfl)
    refine till_free (i := 9) (v := ?_) rfl (by kernel_rfl) (by kernel_rfl) (by kernel_rfl) (by kernel_rfl) (fun _ _ _ h => h) (Or.inl ⟨by rfl, ?_⟩) S0.out ?_
    rotate_left
    · intro w' hs; go_simp; (try with_reducible rfl)
    refine till_free (i := 10) (v := ?_) rfl (by kernel_rfl) (by kernel_rfl) (by kernel_rfl) (by kernel_rfl) (fun _ _ _ h => h) (Or.inl ⟨by rfl, ?_⟩) S0.out ?_
    rotate_left
    · intro w' hs; go_simp; (try with_reducible rfl)
    refine till_take (i := 11) (v := ?_) rfl (by kernel_rfl) (by kernel_rfl) (by kernel_rfl) (by kernel_rfl) (fun _ _ _ h => h) (Or.inl ⟨by rfl, ?_⟩) S0.out ?_
    rotate_left
    · intro w' hs; obtain ⟨s0, s2, s4, s5, s6⟩ := hs; go_simp; (try with_reducible rfl)
    refine till_free (i := 12) (v := ?_) rfl (by kernel_rfl) (by kernel_rfl) (by kernel_rfl) (by kernel_rfl) (fun _ _ _ h => h) (Or.inl ⟨by rfl, ?_⟩) S0.out ?_
    rotate_left
    · intro w' hs; go_simp; (try with_reducible rfl)
    refine till_free (i := 13) (v := ?_) rfl (by kernel_rfl) (by kernel_rfl) (by kernel_rfl) (by kernel_rfl) (fun _ _ _ h => h) (Or.inl ⟨by rfl, ?_⟩) S0.out ?_
    rotate_left
    · intro w' hs; go_simp; (try with_reducible rfl)
    refine till_free (i := 14) (v := ?_) rfl (by kernel_rfl) (by kernel_rfl) (by kernel_rfl) (by kernel_rfl) (fun _ _ _ h => h) (Or.inl ⟨by rfl, ?_⟩) S0.out ?_
    rotate_left
    · intro w' hs; go_simp; (try with_reducible rfl)
    refine till_free (i := 15) (v := ?_) rfl (by kernel_rfl) (by kernel_rfl) (by kernel_rfl) (by kernel_rfl) (fun _ _ _ h => h) (Or.inl ⟨by rfl, ?_⟩) S0.out ?_
    rotate_left
    · intro w' hs; go_simp; (try with_reducible rfl)
    refine till_take (i := 16) (v := ?_) rfl (by kernel_rfl) (by kernel_rfl) (by kernel_rfl) (by kernel_rfl) (fun _ _ _ h => h) (Or.inl ⟨by rfl, ?_⟩) S0.out ?_
    rotate_left
    · intro w' hs; obtain ⟨s0, s2, s4, s5, s6⟩ := hs; go_simp; (try with_reducible rfl)
    refine till_free (i := 17) (v := ?_) rfl (by kernel_rfl) (by kernel_rfl) (by kernel_rfl) (by kernel_rfl) (fun _ _ _ h => h) (Or.inl ⟨by rfl, ?_⟩) S0.out ?_
    rotate_left
    · intro w' hs; go_simp; (try with_reducible rfl)
    refine till_free (i := 18) (v := ?_) rfl (by kernel_rfl) (by kernel_rfl) (by kernel_rfl) (by kernel_rfl) (fun _ _ _ h => h) (Or.inl ⟨by rfl, ?_⟩) S0.out ?_
    rotate_left
    · intro w' hs; go_simp; (try with_reducible rfl)
    refine till_free (i := 19) (v := ?_) rfl (by kernel_rfl) (by kernel_rfl) (by kernel_rfl) (by kernel_rfl) (fun _ _ _ h => h) (Or.inl ⟨by rfl, ?_⟩) S0.out ?_
    rotate_left
    · intro w' hs; go_simp; (try with_reducible rfl)
    refine till_free (i := 20) (v := ?_) rfl (by kernel_rfl) (by kernel_rfl) (by kernel_rfl) (by kernel_rfl) (fun _ _ _ h => h) (Or.inl ⟨by rfl, ?_⟩) S0.out ?_
    rotate_left
    · intro w' hs; go_simp; (try with_reducible rfl)
    refine till_take (i := 21) (v := ?_) rfl (by kernel_rfl) (by kernel_rfl) (by kernel_rfl) (by kernel_rfl) (fun _ _ _ h => h) (Or.inl ⟨by rfl, ?_⟩) S0.out ?_
    rotate_left
    · intro w' hs; obtain ⟨s0, s2, s4, s5, s6⟩ := hs; go_simp; (try with_reducible rfl)
    refine till_call (i := 22) (by kernel_rfl) rfl rfl 29 _ _ rfl (enters_of Tryd.func29 (by kernel_rfl) rfl) #[.slice aa x.2.1.x.attrs.length ac] (by kernel_rfl) (fun v' w' => w'.ownsRow W.drew.heap.size 79 2 v' x.2.1.x.attrs.length (encL x.2.1.x.attrs) ∧ Below W.drew.heap.size W.drew w') OF ?_
    rintro v' w2 ⟨hva, hb2'⟩
    have hz : Below W.heap.size W w2 := (Below.refl _ W).drew.trans hb2'
    have S1 := hid (five w2 (hz.block _ hbs) (hz.block _ (by omega)))
    refine ⟨S1.out, ?_⟩
    obtain ⟨oa, oc, rfl⟩ := slice_of hva
    refine till_free (i := 23) (v := ?_) rfl (by kernel_rfl) (by kernel_rfl) (by kernel_rfl) (by kernel_rfl) (fun _ _ _ h => h) (Or.inl ⟨by rfl, ?_⟩) S1.out ?_
    rotate_left
    · intro w' hs; go_simp; (try with_reducible rfl)
    obtain ⟨va, HVA⟩ : ∃ va, Hid (va = Value.slice oa x.2.1.x.attrs.length oc) := ⟨_, hid rfl⟩
    obtain ⟨ob, HOB⟩ : ∃ ob, Hid (ob = Obj.cells #[.int .i64 x.1, .int .i64 x.2.1.x.kind, .string x.2.1.x.name, .string x.2.1.x.text, .slice oa x.2.1.x.attrs.length oc] 49) := ⟨_, hid rfl⟩
    have hA : Below w2.heap.size w2 (w2.alloc ob) := (Below.refl _ w2).alloc (Nat.le_refl _) ob
    have hzA : Below W.heap.size W (w2.alloc ob) := hz.trans (hA.mono hz.size)
    have S2 := hid (five (w2.alloc ob) (hzA.block _ hbs) (hzA.block _ (by omega)))
    refine till_value (i := 24) (v := .slice (some ⟨w2.heap.size, 0, none⟩) 1 1) (w' := w2.alloc ob) (by kernel_rfl) rfl rfl ?_ S2.out ?_
    · rw [HOB.out]
      go_simp
    have hrz := hrow.below hz
    have hvZ : Boxed w2 w.heap.size 27 v := (hz.block _ hbs).trans hv
    have hn2 := hvZ.not_row (by decide) hrz.1
    refine till_one (i := 25) (by kernel_rfl) rfl fun K hK => ?_
    refine step_append_lies _ rfl (.tmp 13) (.tmp 37) 27 rfl w.heap.size 49 i0 _ 5 72 Tryd.underlying27 I0 I1 I2 I3 rfl (by decide) v lg.length (encI lg) (by kernel_rfl) (hrz.1.alloc _) ⟨w2.heap.size, 0, none⟩ 1 1 (encI1 (atL x.2.1.x x.1, .slice oa x.2.1.x.attrs.length oc)) (by kernel_rfl) rfl (by rw [HOB.out]; exact World.news_of_block (heap_alloc_new w2 _)) (by intro u hu; simp only [encI1, List.mem_cons, List.not_mem_nil, or_false] at hu; rcases hu with rfl | rfl | rfl | rfl | rfl <;> rfl) (by decide) (by unfold maxLen; omega) (by omega) (by have := hz.size; simp; omega) _ rfl ?_
    intro g cap w6 hown hgrow hat6 hlt6
    obtain ⟨hpush, hb6⟩ := item_push (x := atL x.2.1.x x.1) hrow hbel hz (own_down hva (by exact hWs)) hown hgrow
    have hv6 : Boxed w6 w.heap.size 27 v := (hvZ.alloc _).kept hgrow hn2
    have hg6 : w6.heap[x.2.2.g]? = W.heap[x.2.2.g]? := by
      refine (hgrow.block _ ?_ ?_).trans (hzA.block _ (by omega))
      · have := hzA.size; omega
      · intro e
        rcases hrow.1.2 with ⟨e2, _⟩ | ⟨gq, _, _, e2, hgq, _⟩
        · rw [e2] at e; cases e
        · rw [e2] at e
          simp only [Value.ownBlock, Option.some.injEq] at e
          omega
    have S3 := hid (five w6 (by rw [hv6, hv]) hg6)
    refine hK.out _ _ (fun _ _ => S3.out) ?_
    clear hK K
    refine till_store (i := 26) (by kernel_rfl) rfl rfl 27 (.tmp 5) (.tmp 38) rfl (.pointer (some ⟨w.heap.size, 0, none⟩)) (.slice (some ⟨g, 0, none⟩) (lg.length + 1) cap) ?_ ?_ (w' := w6.setCell ⟨w.heap.size, 0, none⟩ (.slice (some ⟨g, 0, none⟩) (lg.length + 1) cap)) ?_ (fun h => absurd rfl h) ?_
    · kernel_rfl
    · kernel_rfl
    · have e1 := hv6.cell
      have e2 := hv6.frozen
      simp [Instr.storeAt, go_sem, e1, e2]
    refine till_done (by kernel_rfl) ?_ _
    show KeepsFrom W0.heap.size W _ ∧ IItm tb id w (pre ++ [x]) _
    have keepR : ∀ {e : TypeId} {sz n : Nat} {y : Value} {xs : List Value}, 27 ≠ e → w6.ownsRow w.heap.size e sz y n xs → (w6.setCell ⟨w.heap.size, 0, none⟩ (.slice (some ⟨g, 0, none⟩) (lg.length + 1) cap)).ownsRow w.heap.size e sz y n xs := fun hne h => h.kept (grownBy_setCell' w6 w.heap.size _) (.inr (hv6.not_row hne h).symm)
    have far : ∀ b t u, b ≠ w.heap.size → 49 ≠ t → Boxed W b t u → Boxed (w6.setCell ⟨w.heap.size, 0, none⟩ (.slice (some ⟨g, 0, none⟩) (lg.length + 1) cap)) b t u := fun b t u h1 h2 h3 => by
      have h4 : Boxed w2 b t u := (hz.block _ h3.lt).trans h3
      exact ((h4.alloc ob).kept hgrow (h4.not_row (Ne.symm h2) hrz.1)).other h1 _
    refine ⟨⟨?_, fun k o hk hko hoc => ?_⟩, ⟨⟨_, lg ++ [(atL x.2.1.x x.1, .slice oa x.2.1.x.attrs.length oc)], hv6.set _, ⟨keepR (by decide) hpush.1, fun y hy => keepR (by decide) (hpush.2 y hy)⟩, ?_⟩, far _ _ _ (by omega) (by decide) i1, far _ _ _ (by omega) (by decide) i2⟩, ?_⟩
    · have h1 := hzA.size
      have h2 := hgrow.size
      have h3 : (w6.setCell ⟨w.heap.size, 0, none⟩ (.slice (some ⟨g, 0, none⟩) (lg.length + 1) cap)).heap.size = w6.heap.size := by simp [World.setCell]
      omega
    · have hkl : k < W.heap.size := (Array.getElem?_eq_some_iff.1 hko).1
      rw [Below.heap_setCell _ _ _ _ (by show k ≠ w.heap.size; omega), hgrow.block k (by have := hzA.size; omega) (fun e => ?_), hzA.block k hkl]
      · exact hko
      · rcases hrow.1.2 with ⟨e2, _⟩ | ⟨gq, _, _, e2, _, e3, _⟩
        · rw [e2] at e; cases e
        · rw [e2] at e
          simp only [Value.ownBlock, Option.some.injEq] at e
          rw [e, e3] at hko
          cases hko
          cases hoc
    · rw [List.map_append, hlg]
      simp [itemsOf]
    · exact hb6.setCell (p := ⟨w.heap.size, 0, none⟩) (Nat.le_refl _) _
  case done =>
    rintro D W hD ⟨⟨⟨v, lg, hv, hrow, hlg⟩, i1, i2⟩, hbel⟩ hK
    have hvc := hv.cell
    gi_wp2
    refine ⟨by simp, .inl ⟨_, _, rfl, run_takeDeferred hK, ?_⟩⟩
    refine ⟨_, results_tmp rfl _ _ _, v, lg, rfl, ⟨ownsRow_putObj hrow.1 _ hK rfl, fun y hy => ownsRow_putObj (hrow.2 y hy) _ hK rfl⟩, ?_, hbel.trans (belowK_b (w := w) (Nat.le_refl _) W D _ _ (by omega) hK rfl rfl)⟩
    rw [hlg, itemsOf_rows]
  case stop =>
    rintro D c pre W _ _ hx _
    exact hx.elim
end
end N
end Go.Proofs.YtidccohjehegjaaDoor
