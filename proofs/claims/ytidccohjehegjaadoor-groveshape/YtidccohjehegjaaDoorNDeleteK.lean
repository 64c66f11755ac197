/- The walk of grove's Delete. -/
import Derived.Test.YtidccohjehegjaaDoorK9
import Derived.Test.YtidccohjehegjaaDoorK2
namespace Go.Proofs.YtidccohjehegjaaDoor
open Go.RowKit Go.Shelf
attribute [local go_sem] Oper.semAt_some
namespace N
open T
section
variable {B tb mb : Nat} {f : F} {nx : Int} {L L' : List NS} {w W0 : World}
/-- Between two rounds of Delete. -/
def IDel (mb : Nat) (L' : List NS) (W0 : World) (pre : List V) (W : World) : Prop := MapIs W mb (gone (idg L') (pre.map (·.2.1.id))) ∧ Turns [mb] W0 W
theorem Turns.grown {bs : List Nat} {W W' : World} {row : Option Nat} (h : Turns bs W0 W) (hg : W.grownBy W' row) (hr : ∀ r, row = some r → r ∈ bs ∨ W0.heap.size ≤ r) : Turns bs W0 W' :=
  ⟨hg.os.trans h.os, hg.tape.trans h.tape, hg.output.trans h.output, Nat.le_trans h.size hg.size, fun b hb hq => (hg.block b (Nat.lt_of_lt_of_le hb h.size) (fun e => by
    rcases hr b e.symm with q | q
    · exact hq q
    · omega)).trans (h.block b hb hq)⟩
theorem Turns.trans {bs bs' : List Nat} {W W' : World} (h : Turns bs W0 W) (h' : Turns bs' W W') (hs : ∀ b ∈ bs', b ∈ bs ∨ W0.heap.size ≤ b) : Turns bs W0 W' :=
  ⟨h'.os.trans h.os, h'.tape.trans h.tape, h'.output.trans h.output, Nat.le_trans h.size h'.size, fun b hb hq => (h'.block b (Nat.lt_of_lt_of_le hb h.size) (fun e => by
    rcases hs b e with q | q
    · exact hq q
    · omega)).trans (h.block b hb hq)⟩
theorem IDel.own (hm : mb < W0.heap.size) : OwnFrom W0.heap.size (IDel mb L' W0) := by
  rintro s X Y row ⟨h1, h2⟩ hg hr
  exact ⟨h1.kept (hg.block mb (Nat.lt_of_lt_of_le hm h2.size) (fun e => by have := (hr mb e.symm).1; omega)), h2.grown hg fun r e => Or.inr (hr r e).1⟩
theorem IDel.look {pre : List V} {W : World} {b1 b2 : Nat} {id : Int} (hL : GraphIn B mb L' W0) (htb : tb ≠ mb ∧ tb < W0.heap.size) (ht : W0.cell? ⟨tb, 0, none⟩ = some (.map (some mb))) (hb1 : b1 ≠ mb ∧ W0.cell? ⟨b1, 0, none⟩ = some (.pointer (some ⟨tb, 0, none⟩))) (hb2 : b2 ≠ mb ∧ W0.cell? ⟨b2, 0, none⟩ = some (.int .i64 id))
    (hi : IDel mb L' W0 pre W) : InvD tb mb b1 b2 L' id pre W := by
  have keep : ∀ b, b < W0.heap.size → b ≠ mb → W.heap[b]? = W0.heap[b]? := fun b h1 h2 => hi.2.block b h1 (by simpa using h2)
  have cell : ∀ b v, W0.cell? ⟨b, 0, none⟩ = some v → b ≠ mb → W.cell? ⟨b, 0, none⟩ = some v := fun b v h1 h2 => (World.cell?_of_block (keep b (World.block_lt_of_cell? W0 _ h1) h2)).trans h1
  have hmb := (List.nodup_cons.1 hL.nd).1
  refine ⟨⟨cell tb _ ht htb.1, fun p hp => ((hL.nodes p hp).same fun b hb => ?_).zero, fun p hp hn hw W' hW' => ?_⟩, cell b1 _ hb1.2 hb1.1, cell b2 _ hb2.2 hb2.1⟩
  · have hbl : b ∈ allB L' := List.mem_flatMap.2 ⟨p, hp, hb⟩
    exact keep b (hL.lt b (List.mem_cons_of_mem _ hbl)) (fun e => hmb (by rw [← e]; exact hbl))
  · rw [get (hi.1.kept hW') hw, look_gone hn, look_mem hL.map.nd (List.mem_map.2 ⟨p, hp, rfl⟩)]
    rfl
/-- What the loop of Delete finds: the nodes that go. -/
theorem cut_ents (h : TreeIn B tb mb f nx L w) (hd : (ids f).Nodup) {id p : Int} (hp : parF f id = some p) {w1 : World} (hc : CutIn B tb mb f L id p w L' w1) : ∀ e ∈ T.ents (sub f id) p, (e, slotOf L' e.id) ∈ L' := by
  intro e he
  have h1 : e ∈ L'.map (·.1) := (hc.ents.trans (ents_del f 0 id p hd hp)).mem_iff.2 (List.mem_append_right _ he)
  obtain ⟨⟨e', s⟩, hm, rfl⟩ := List.mem_map.1 h1
  have hi : (L'.map (·.1.id)).Nodup := by
    have e2 : L'.map (·.1.id) = L.map (·.1.id) := by
      have := congrArg (List.map (·.1)) hc.same
      simpa [idg, List.map_map, Function.comp_def] using this
    rw [e2]
    exact h.idl
  rw [slot_of hi hm]
  exact hm
set_option maxRecDepth 100000 in
set_option maxHeartbeats 2000000 in
theorem delete_any (h : Hid (TreeIn B tb mb f nx L w)) (hf : Hid (Fine f)) (hone : Hid (∀ i ∈ tops f, i = rootF f)) (id : Int) (hw : wfI id) :
    Calls Tryd.prog 24 #[.pointer (some ⟨tb, 0, none⟩), .int .i64 id] w fun e w' => e = .returned (.int .i64 (deleteF f id).2) ∧ Left B tb mb L w (deleteF f id).1 nx w' := by
  have W1 := (Below.refl w.heap.size w).alloc (Nat.le_refl _) (.cells #[.pointer (some ⟨tb, 0, none⟩)] 23)
  have hbx := Boxed.new w 23 (.pointer (some ⟨tb, 0, none⟩))
  obtain ⟨wb, hwb⟩ : ∃ wb, w.alloc (.cells #[.pointer (some ⟨tb, 0, none⟩)] 23) = wb := ⟨_, rfl⟩
  have hwbs : wb.heap.size = w.heap.size + 1 := by rw [← hwb]; simp
  have hT := h.out.below W1
  rw [hwb] at W1 hbx hT
  obtain ⟨c0, c1, c2⟩ := hT.cells
  have e0 := hbx.cell
  have HT := hid hT
  have HB := hid hbx
  refine (callsIn_wide (n := 3)).1 ?_
  refine callsIn_of_wp_marks Tryd.func24 rfl trivial ?_ rfl
  simp only [Tryd.ntmps24, List.size_toArray, List.length_cons, List.length_nil, Nat.reduceAdd, Nat.reduceSub, Array.replicate_succ, Array.replicate_zero, List.push_toArray, List.append_toArray, List.nil_append, List.cons_append]
  by_cases h1 : id ∈ ids f
  · obtain ⟨e, s, m1, m2, m3, m4, m5⟩ : ∃ e s, (e, s) ∈ L ∧ e ∈ T.ents f 0 ∧ e.id = id ∧ id ∈ ids f ∧ look (idg L) id = some s.g := by
      rcases hT.find id with ⟨q, _⟩ | q
      · exact absurd h1 q
      · exact q
    have hlook := hT.hit hw m5
    clear m1 m2 m3 m4 m5
    by_cases h2 : id = rootF f
    · have hd : deleteF f id = (f, 62) := by
        unfold deleteF
        rw [if_neg (by simpa using h1), if_pos (first_root.2 ⟨by rintro rfl; simp [ids] at h1, h2⟩)]
      rw [hd]
      have h2' : (id == rootF f) = true := by simpa using h2
      clear hT h2
      gi_wp2_with fail
      exact ⟨_, results_tmp rfl _ _ _, rfl, Left.same h.out W1⟩
    · have hd : deleteF f id = (T.del f id, 0) := by
        unfold deleteF
        rw [if_neg (by simpa using h1), if_neg (fun q => h2 (first_root.1 q).2)]
      obtain ⟨p, hp⟩ := par_some hf.out.nd h1 (fun q => h2 (hone.out id q))
      rw [hd]
      have h2' : (id == rootF f) = false := by simpa using h2
      have HCU := hid (cut_any HT hf id p (hid hp))
      have HP := hid hp
      clear hT hd hp c2
      gi_wp2_with fail
      refine ⟨trivial, (callsIn_wide.2 HCU.out).mono ?_⟩
      rintro e w1 ⟨⟨v, rfl⟩, L', hc⟩
      have e0' : w1.cell? ⟨w.heap.size, 0, none⟩ = some (.pointer (some ⟨tb, 0, none⟩)) := by
        refine (World.cell?_of_block (hc.turns.block w.heap.size (by omega) (fun q => ?_))).trans e0
        have := h.out.graph.lt w.heap.size (List.mem_cons_of_mem _ q)
        omega
      have HC := hid hc
      clear HCU hc hlook c0 c1 e0
      gi_wp2_with (refine ⟨trivial, (callsIn_wide.2 (downward_any _ _)).mono ?_⟩; rintro e w' ⟨rfl, rfl⟩)
      have hT := HT.out
      have hc := HC.out
      have B1 := ((Below.refl w1.heap.size w1).alloc (Nat.le_refl _) (.cells #[.pointer (some ⟨tb, 0, none⟩)] 23)).alloc (by simp) (.cells #[.int .i64 id] 3)
      have hb1 : Boxed ((w1.alloc (.cells #[.pointer (some ⟨tb, 0, none⟩)] 23)).alloc (.cells #[.int .i64 id] 3)) w1.heap.size 23 (.pointer (some ⟨tb, 0, none⟩)) := (Boxed.new w1 _ _).alloc _
      have hb2 : Boxed ((w1.alloc (.cells #[.pointer (some ⟨tb, 0, none⟩)] 23)).alloc (.cells #[.int .i64 id] 3)) (w1.heap.size + 1) 3 (.int .i64 id) := by
        have := Boxed.new (w1.alloc (.cells #[.pointer (some ⟨tb, 0, none⟩)] 23)) 3 (.int .i64 id)
        rw [World.size_alloc] at this
        exact this
      obtain ⟨W0, hW0⟩ : ∃ W0, (w1.alloc (.cells #[.pointer (some ⟨tb, 0, none⟩)] 23)).alloc (.cells #[.int .i64 id] 3) = W0 := ⟨_, rfl⟩
      have hs0 : W0.heap.size = w1.heap.size + 2 := by rw [← hW0]; simp
      rw [hW0] at B1 hb1 hb2 ⊢
      clear hW0
      have hws := hc.turns.size
      have hmb : mb < w1.heap.size := hc.graph.map.lt
      have htb : tb < w1.heap.size := Nat.lt_of_lt_of_le (lt_of_block hT.top) hws
      have htm : tb ≠ mb := fun e => hT.tb0 (by rw [e]; exact List.mem_cons_self ..)
      have t0 : W0.cell? ⟨tb, 0, none⟩ = some (.map (some mb)) := by
        rw [World.cell?_of_block (B1.block tb htb), World.cell?_of_block hc.top]
        exact hT.cells.1
      have hL0 := hc.graph.below B1
      have hdn := sub_nodup f id hf.out.nd
      have hdm := sub_ids_sub f id hf.out.nd
      have hdl := hf.out.len
      have hen := cut_ents hT hf.out.nd HP.out hc
      obtain ⟨x0, k0, hsub⟩ := sub_one f id hf.out.nd h1
      have hb0 : W0.cell? ⟨w.heap.size, 0, none⟩ = some (.pointer (some ⟨tb, 0, none⟩)) := (World.cell?_of_block (B1.block w.heap.size (by omega))).trans e0'
      have hbm : w.heap.size ≠ mb := fun e => by have := h.out.graph.map.lt; omega
      have hids : (walkF (slotOf L') (sub f id) 0 p).map (·.2.1.id) = ids (sub f id) := walk_ids _ _ _ _
      have HWF : Hid (∀ i ∈ ids (sub f id), wfI i) := hid fun i hi => hf.out.wf i (hdm i hi)
      have HEN : Hid (∀ y ∈ walkF (slotOf L') (sub f id) 0 p, (y.2.1, y.2.2) ∈ L') := hid fun y hy => by
        have h1 := List.mem_map_of_mem (f := fun y : V => y.2) hy
        rw [walk_ents] at h1
        obtain ⟨e, he, hxe⟩ := List.mem_map.1 h1
        have := hen e he
        rw [hxe] at this
        exact this
      have hG := down_gives (tb := tb) (mb := mb) (b1 := w1.heap.size) (b2 := w1.heap.size + 1) (L := L') (sl := slotOf L') (q := p) (x := x0) (k := k0) (id := id) (hid (by rw [← hsub]; exact hen)) (hid (by rw [← hsub]; exact hdn.1)) (hid (by rw [← hsub]; exact HWF.out)) (hid (by rw [← hsub]; omega)) (3 - 1) W0
      rw [← hsub] at hG
      clear hsub hen hdn hdm hdl e0'
      refine Y.range_law rfl (by omega) (gf := 45) (lb := #[.pointer (some ⟨w1.heap.size, 0, none⟩), .pointer (some ⟨w1.heap.size + 1, 0, none⟩)]) rfl trivial (enters_of Tryd.func45 (by kernel_rfl) rfl) hG (Below.refl _ _) (fun _ => rfl)
        (IDel mb L' W0) (fun _ _ _ => False) (IDel.own (by omega)) (fun _ _ _ _ _ hs _ _ => hs) (fun pre A hi => IDel.look hL0 ⟨htm, by omega⟩ t0 ⟨by omega, hb1.cell⟩ ⟨by omega, hb2.cell⟩ hi)
        ⟨by rw [List.map_nil, gone_nil]; exact hL0.map, Turns.of_below (Below.refl _ _)⟩
        (fun x a' W => a' = { tmps := #[.pointer (some ⟨tb, 0, none⟩), .int .i64 id, .pointer (some ⟨w.heap.size, 0, none⟩), undef, .int .i64 0, undef, .pointer (some ⟨x.2.2.g, 0, none⟩), .bool false, .pointer (some ⟨tb, 0, none⟩), .pointer (some ⟨tb, 0, none⟩), .pointer (some ⟨tb, 0, none⟩), .map (some mb), .int .i64 id, .pointer (some ⟨s.g, 0, none⟩), .bool false, .bool false, .int .i64 id, .pointer (some ⟨tb, 0, none⟩), .pointer (some ⟨tb, 0, none⟩), .pointer (some ⟨tb, 1, none⟩), .int .i64 (rootF f), .bool false, .pointer (some ⟨tb, 0, none⟩), .int .i64 id, v, .pointer (some ⟨tb, 0, none⟩), .int .i64 id, .func (.func 45) #[] #[.pointer (some ⟨w1.heap.size, 0, none⟩), .pointer (some ⟨w1.heap.size + 1, 0, none⟩)], .int .i64 x.1, .pointer (some ⟨x.2.2.g, 0, none⟩), undef, undef, undef, undef, undef, undef, undef, undef, undef], defers := [] })
        (fun x a' _ _ _ _ hs _ _ => hs) ?assign ?body ?done ?stop
      case assign =>
        intro l pre x W K hi hK
        dsimp only [encV]
        gi_wp2
        exact hK _ _ ((KeepsOthers.refl _).from _) hi rfl
      case body =>
        rintro l pre x a' W hl hrr ⟨hm, ht⟩ rfl hp
        have hxm : (x.2.1, x.2.2) ∈ L' := HEN.out x (hp.subset (by simp))
        have hk := IDel.look hL0 ⟨htm, by omega⟩ t0 ⟨by omega, hb1.cell⟩ ⟨by omega, hb2.cell⟩ (⟨hm, ht⟩ : IDel mb L' W0 pre W)
        obtain ⟨d0, _⟩ := (hk.1.nodes _ hxm).cells
        have q1 := hk.1.top
        have hwx : wfI x.2.1.id := HWF.out _ (by rw [← hids]; exact List.mem_map_of_mem (f := fun y : V => y.2.1.id) (hp.subset (by simp)))
        have q0 : W.cell? ⟨w.heap.size, 0, none⟩ = some (.pointer (some ⟨tb, 0, none⟩)) := (World.cell?_of_block (ht.block w.heap.size (by omega) (by simpa using hbm))).trans hb0
        obtain ⟨w2, hr, hm2, hg2⟩ := del_run (w := W.drew) (hm.kept rfl) hwx 0
        have hxg : x.2.2.g ≠ mb := fun e => (List.nodup_cons.1 hL0.nd).1 (by rw [← e]; exact List.mem_flatMap.2 ⟨_, hxm, by simp [blks]⟩)
        have k2 : ∀ b v, W.cell? ⟨b, 0, none⟩ = some v → b ≠ mb → w2.cell? ⟨b, 0, none⟩ = some v := fun b v h1 h2 => (World.cell?_of_block (hg2.block b (World.block_lt_of_cell? W _ h1) (fun e => h2 (by simpa using e)))).trans h1
        have S0 : Hid (W.drew.cell? ⟨w.heap.size, 0, none⟩ = some (.pointer (some ⟨tb, 0, none⟩)) ∧ W.drew.cell? ⟨tb, 0, none⟩ = some (.map (some mb)) ∧ W.drew.cell? ⟨x.2.2.g, 0, none⟩ = some (.int .i64 x.2.1.id)) := hid ⟨q0, q1, d0⟩
        have S1 : Hid (w2.cell? ⟨w.heap.size, 0, none⟩ = some (.pointer (some ⟨tb, 0, none⟩)) ∧ w2.cell? ⟨tb, 0, none⟩ = some (.map (some mb)) ∧ w2.cell? ⟨x.2.2.g, 0, none⟩ = some (.int .i64 x.2.1.id)) := hid ⟨k2 _ _ q0 hbm, k2 _ _ q1 htm, k2 _ _ d0 hxg⟩
        gi_wp2_with fail
        refine till_round (z := 9) (S := fun w' => w'.cell? ⟨w.heap.size, 0, none⟩ = some (.pointer (some ⟨tb, 0, none⟩)) ∧ w'.cell? ⟨tb, 0, none⟩ = some (.map (some mb)) ∧ w'.cell? ⟨x.2.2.g, 0, none⟩ = some (.int .i64 x.2.1.id)) (by kernel_rfl) (by kernel_rfl) ?_
        refine till_via [1, 2, 3, 9] (i := 0) (v := ?_) rfl (by kernel_rfl) (by kernel_rfl) (by kernel_rfl) (by kernel_rfl) (fun _ _ _ h => h) (Or.inl ⟨by rfl, ?_⟩) S0.out ?_
        rotate_left
        · intro w' hs; obtain ⟨s1, s2, s3⟩ := hs; go_simp; (try with_reducible rfl)
        refine till_free (i := 1) (v := ?_) rfl (by kernel_rfl) (by kernel_rfl) (by kernel_rfl) (by kernel_rfl) (fun _ _ _ h => h) (Or.inl ⟨by rfl, ?_⟩) S0.out ?_
        rotate_left
        · intro w' hs; go_simp; (try with_reducible rfl)
        refine till_free (i := 2) (v := ?_) rfl (by kernel_rfl) (by kernel_rfl) (by kernel_rfl) (by kernel_rfl) (fun _ _ _ h => h) (Or.inl ⟨by rfl, ?_⟩) S0.out ?_
        rotate_left
        · intro w' hs; go_simp; (try with_reducible rfl)
        refine till_take (i := 3) (v := ?_) rfl (by kernel_rfl) (by kernel_rfl) (by kernel_rfl) (by kernel_rfl) (fun _ _ _ h => h) (Or.inl ⟨by rfl, ?_⟩) S0.out ?_
        rotate_left
        · intro w' hs; obtain ⟨s1, s2, s3⟩ := hs; go_simp; (try with_reducible rfl)
        refine till_free (i := 4) (v := ?_) rfl (by kernel_rfl) (by kernel_rfl) (by kernel_rfl) (by kernel_rfl) (fun _ _ _ h => h) (Or.inl ⟨by rfl, ?_⟩) S0.out ?_
        rotate_left
        · intro w' hs; go_simp; (try with_reducible rfl)
        refine till_free (i := 5) (v := ?_) rfl (by kernel_rfl) (by kernel_rfl) (by kernel_rfl) (by kernel_rfl) (fun _ _ _ h => h) (Or.inl ⟨by rfl, ?_⟩) S0.out ?_
        rotate_left
        · intro w' hs; go_simp; (try with_reducible rfl)
        refine till_free (i := 6) (v := ?_) rfl (by kernel_rfl) (by kernel_rfl) (by kernel_rfl) (by kernel_rfl) (fun _ _ _ h => h) (Or.inl ⟨by rfl, ?_⟩) S0.out ?_
        rotate_left
        · intro w' hs; go_simp; (try with_reducible rfl)
        refine till_free (i := 7) (v := ?_) rfl (by kernel_rfl) (by kernel_rfl) (by kernel_rfl) (by kernel_rfl) (fun _ _ _ h => h) (Or.inl ⟨by rfl, ?_⟩) S0.out ?_
        rotate_left
        · intro w' hs; go_simp; (try with_reducible rfl)
        refine till_take (i := 8) (v := ?_) rfl (by kernel_rfl) (by kernel_rfl) (by kernel_rfl) (by kernel_rfl) (fun _ _ _ h => h) (Or.inl ⟨by rfl, ?_⟩) S0.out ?_
        rotate_left
        · intro w' hs; obtain ⟨s1, s2, s3⟩ := hs; go_simp; (try with_reducible rfl)
        refine till_value (i := 9) (v := .tuple #[]) (w' := w2) (by kernel_rfl) rfl rfl ?_ S1.out ?_
        · go_simp
        refine till_done (by kernel_rfl) ?_ _
        show KeepsFrom W0.heap.size W w2 ∧ IDel mb L' W0 (pre ++ [x]) w2
        refine ⟨KeepsFrom.of_grownBy (row := some mb) ⟨hg2.os, hg2.tape, hg2.output, hg2.size, hg2.block⟩ (fun j e => by cases e; omega), ?_, ht.grown (row := some mb) ⟨hg2.os, hg2.tape, hg2.output, hg2.size, hg2.block⟩ (fun r e => by cases e; simp)⟩
        rw [List.map_append, List.map_cons, List.map_nil, gone_snoc]
        exact hm2
      case done =>
        rintro D W hD ⟨hm, ht⟩ hK
        gi_wp2
        refine ⟨by simp, .inl ⟨_, _, rfl, run_takeDeferred hK, ?_⟩⟩
        refine ⟨_, results_tmp rfl _ _ _, rfl, ?_⟩
        rw [hids] at hm
        have hkD : ∀ b, b < W0.heap.size → (W.putObj D (.deferred none)).heap[b]? = W.heap[b]? := fun b hb => World.putObj_heap_other (by omega)
        have hM : MapIs (W.putObj D (.deferred none)) mb (gone (idg L') (ids (sub f id))) := hm.kept (hkD mb (by omega))
        have hTD : Turns [mb] W0 (W.putObj D (.deferred none)) := ht.grown (grownBy_putObj' W D _) (fun r e => by cases e; exact Or.inr hD)
        have hTr := gone_tree hT hf.out.nd HP.out hc hM (fun b h2 h3 => (hTD.block b (by omega) (by simpa using h2)).trans (B1.block b h3))
        refine ⟨⟨mb, _, hTr, fun b hb => Or.inl ?_⟩, ?_⟩
        · rcases List.mem_cons.1 hb with q | q
          · rw [q]; exact List.mem_cons_self ..
          · have := (allB_filter _ L').subset q
            rw [hc.blocks] at this
            exact List.mem_cons_of_mem _ this
        · have z1 : Turns (tb :: mb :: allB L) w wb := Turns.of_below W1
          have z2 := z1.trans hc.turns (fun b hb => Or.inl (List.mem_cons_of_mem _ (List.mem_cons_of_mem _ hb)))
          have z3 := z2.trans (Turns.of_below (bs := []) B1) (fun b hb => by simp at hb)
          exact z3.trans hTD (fun b hb => Or.inl (by simp at hb; rw [hb]; simp))
      case stop =>
        rintro D c pre W _ _ hx _
        exact hx.elim
  · have hlook : (Instr.lookup 62 (.map (some mb)) (.int .i64 id) false).run Tryd.prog wb = .ok (.pointer none) wb := by
      rcases hT.find id with ⟨_, q⟩ | ⟨_, _, _, _, _, q, _⟩
      · exact hT.miss hw q
      · exact absurd q h1
    have hd : deleteF f id = (f, 60) := by unfold deleteF; rw [if_pos h1]
    rw [hd]
    clear hT
    gi_wp2_with fail
    exact ⟨_, results_tmp rfl _ _ _, rfl, Left.same h.out W1⟩
end
end N
end Go.Proofs.YtidccohjehegjaaDoor
