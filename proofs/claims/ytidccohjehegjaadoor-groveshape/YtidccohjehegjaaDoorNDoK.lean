/- A call on a tree: the walk of the statements' own 'does'. -/
import Derived.Test.YtidccohjehegjaaDoorNGoodK
import Derived.Test.YtidccohjehegjaaDoorNGetK
import Derived.Test.YtidccohjehegjaaDoorNItemsK
namespace Go.Proofs.YtidccohjehegjaaDoor
open Go.RowKit Go.Shelf
namespace T
/-- A call: its kind, ids, place, name, text, items. -/
structure OpT where
  k : Int
  id : Int
  to' : Int
  at' : Int
  nm : ByteArray
  tx : ByteArray
  l : List P.Itm
def doF (f : F) (nx : Int) (o : OpT) : (F × Int) × Int × Int :=
  if o.k = 0 then N.loadF f nx o.l
  else if o.k = 1 then insertF f nx o.id o.at' o.l
  else if o.k = 2 then (((deleteF f o.id).1, nx), 0, (deleteF f o.id).2)
  else if o.k = 3 then (((moveF f o.id o.to' o.at').1, nx), 0, (moveF f o.id o.to' o.at').2)
  else if o.k = 4 then (((setAttrF f o.id o.nm o.tx).1, nx), 0, (setAttrF f o.id o.nm o.tx).2)
  else if o.k = 5 then (((delAttrF f o.id o.nm).1, nx), 0, (delAttrF f o.id o.nm).2)
  else if o.k = 6 then (((N.setTextF f o.id o.tx).1, nx), 0, (N.setTextF f o.id o.tx).2)
  else ((f, nx), 0, 0)
theorem load_good {f : F} {nx : Int} (h : Good f nx) (l : List P.Itm) : Good (N.loadF f nx l).1.1 (N.loadF f nx l).1.2 := by
  unfold N.loadF
  by_cases q1 : (P.checkP l).2 = 0
  · rw [if_neg (by simpa using q1)]
    obtain ⟨h1, h2⟩ := N.check_zero q1
    by_cases q2 : 2147483647 < nx + (l.length : Int)
    · rw [if_pos q2]; exact h
    · rw [if_neg q2]
      exact h.load h1 h2 (by omega)
  · rw [if_pos q1]; exact h
theorem insert_good {f : F} {nx : Int} (h : Good f nx) (id at' : Int) (l : List P.Itm) : Good (insertF f nx id at' l).1.1 (insertF f nx id at' l).1.2 := by
  by_cases hi : id ∈ ids f
  · obtain ⟨e, he, rfl⟩ : ∃ e ∈ ents f 0, e.id = id := by
      rw [← ents_ids f 0] at hi
      obtain ⟨e, he, h1⟩ := List.mem_map.1 hi
      exact ⟨e, he, h1⟩
    rw [N.insertF_in h.nd he]
    by_cases q1 : e.x.kind ≠ 1
    · rw [if_pos q1]; exact h
    · rw [if_neg q1]
      by_cases q2 : N.uninE nx (ids f).length e.kids.length (N.chain f 0 e.id).length at' l = 0
      · rw [if_neg (by simpa using q2)]
        unfold N.uninE at q2
        by_cases z1 : at' < 0 ∨ (e.kids.length : Int) < at'
        · rw [if_pos z1] at q2; cases q2
        · rw [if_neg z1] at q2
          by_cases z2 : forestE l = 0
          · rw [if_neg (by simpa using z2)] at q2
            by_cases z3 : 40 ≤ ((N.chain f 0 e.id).length : Int) + deepest l
            · rw [if_pos z3] at q2; cases q2
            · rw [if_neg z3] at q2
              by_cases z4 : 1000 < (ids f).length + l.length ∨ 2147483647 < nx + (l.length : Int)
              · rw [if_pos z4] at q2; cases q2
              · have hfo : forestF none l = 0 := by
                  unfold forestE at z2
                  by_cases z5 : l = []
                  · rw [if_pos z5] at z2; cases z2
                  · rw [if_neg z5] at z2; exact z2
                exact h.insert he (Classical.byContradiction q1) _ hfo (by omega) (by omega) (by omega)
          · rw [if_pos z2] at q2; exact absurd q2 z2
      · rw [if_pos q2]; exact h
  · rw [N.insertF_out hi]; exact h
theorem delete_good {f : F} {nx : Int} (h : Good f nx) (id : Int) : Good (deleteF f id).1 nx := by
  unfold deleteF
  split
  · exact h
  · split
    · exact h
    · exact h.del id
theorem move_good {f : F} {nx : Int} (h : Good f nx) (id t' at' : Int) : Good (moveF f id t' at').1 nx := by
  by_cases hi : id ∈ ids f ∧ t' ∈ ids f
  · obtain ⟨e, he, rfl⟩ : ∃ e ∈ ents f 0, e.id = id := by
      have := hi.1
      rw [← ents_ids f 0] at this
      obtain ⟨e, he, h1⟩ := List.mem_map.1 this
      exact ⟨e, he, h1⟩
    obtain ⟨ep, hep, rfl⟩ : ∃ e ∈ ents f 0, e.id = t' := by
      have := hi.2
      rw [← ents_ids f 0] at this
      obtain ⟨e, he, h1⟩ := List.mem_map.1 this
      exact ⟨e, he, h1⟩
    rw [N.moveF_in h.nd h.one h.kinds he hep]
    by_cases q : N.unmovE f e ep at' = 0
    · rw [if_neg (by simpa using q)]
      exact h.move he hep _ q
    · rw [if_pos q]; exact h
  · rw [N.moveF_out (by
      by_cases z : id ∈ ids f
      · exact Or.inr (fun y => hi ⟨z, y⟩)
      · exact Or.inl z)]
    exact h
theorem do_good {f : F} {nx : Int} (h : Good f nx) (o : OpT) : Good (doF f nx o).1.1 (doF f nx o).1.2 := by
  unfold doF
  split
  · exact load_good h o.l
  · split
    · exact insert_good h o.id o.at' o.l
    · split
      · exact delete_good h o.id
      · split
        · exact move_good h o.id o.to' o.at'
        · split
          · exact setAttr_good h o.id o.nm o.tx
          · split
            · exact delAttr_good h o.id o.nm
            · split
              · exact setText_good h o.id o.tx
              · exact h
end T
namespace N
open T
section
variable {B tb mb : Nat} {f f' : F} {nx nx' : Int} {L : List NS} {w w1 w' : World}
theorem Left.of_below (hb : Below w.heap.size w w1) (h : Left B tb mb L w1 f' nx' w') : Left B tb mb L w f' nx' w' := by
  obtain ⟨⟨mb', L', ht, hbl⟩, h2⟩ := h
  have hs := hb.size
  refine ⟨⟨mb', L', ht, fun b hq => ?_⟩, (Turns.of_below hb).trans h2 (fun b hq => Or.inl hq)⟩
  rcases hbl b hq with z | z
  · exact Or.inl z
  · exact Or.inr (by omega)
theorem load_any2 (h : Hid (TreeIn B tb mb f nx L w)) (V : Value) (l : List IV) (I : Hid (ItemsIn V l w)) (FC : Hid (∀ x ∈ l, FitC x.1)) (ht : Hid (Tab w)) (hnx : 1 ≤ nx) (hnx2 : nx ≤ 2147483647) :
    Calls Tryd.prog 19 #[.pointer (some ⟨tb, 0, none⟩), V] w fun r w' => r = .returned (.tuple #[.int .i64 (loadF f nx (l.map (·.1))).2.1, .int .i64 (loadF f nx (l.map (·.1))).2.2]) ∧ Left B tb mb L w (loadF f nx (l.map (·.1))).1.1 (loadF f nx (l.map (·.1))).1.2 w' := by
  by_cases hc : (P.checkP (l.map (·.1))).2 = 0
  · obtain ⟨h1, _⟩ := check_zero hc
    have hfo := (load_tree nx h1).1
    exact load_any h V l I FC ht hnx hnx2 (hid fun x hx => by
      have := (parts_attrs (forest_parts _ none hfo x.1 (List.mem_map_of_mem hx)).1).1
      omega)
  · have e : loadF f nx (l.map (·.1)) = ((f, nx), 0, (P.checkP (l.map (·.1))).2) := by
      unfold loadF
      rw [if_pos hc]
    rw [e]
    exact load_bad h V l I FC ht _ _ (hid rfl) hc
/-- A call as it stands in memory. -/
structure OV where
  k : Int
  id : Int
  to' : Int
  at' : Int
  nm : ByteArray
  tx : ByteArray
  l : List IV
  v : Value
def OV.op (o : OV) : OpT := ⟨o.k, o.id, o.to', o.at', o.nm, o.tx, o.l.map (·.1)⟩
def opV (o : OV) : Value := .agg #[.int .i64 o.k, .int .i64 o.id, .int .i64 o.to', .int .i64 o.at', .string o.nm, .string o.tx, o.v]
def FitO (o : OV) : Prop := (wfI o.k ∧ wfI o.id ∧ wfI o.to' ∧ wfI o.at') ∧ (o.nm.size ≤ maxLen ∧ o.tx.size ≤ maxLen) ∧ o.l.length ≤ 140737488355328 ∧ ∀ x ∈ o.l, FitC x.1
set_option maxRecDepth 100000 in
set_option maxHeartbeats 4000000 in
theorem does_any (h : Hid (TreeIn B tb mb f nx L w)) (hg : Hid (T.Good f nx)) (o : OV) (hF : Hid (FitO o)) (HI : Hid (∀ w', Turns [tb] w w' → ItemsIn o.v o.l w')) (ht : Hid (Tab w)) :
    Calls Tryd.prog 9 #[.pointer (some ⟨tb, 0, none⟩), opV o] w fun r w' => r = .returned (.tuple #[.int .i64 (doF f nx o.op).2.1, .int .i64 (doF f nx o.op).2.2]) ∧ Left B tb mb L w (doF f nx o.op).1.1 (doF f nx o.op).1.2 w' := by
  obtain ⟨k, id, t', at', nm, tx, l, v⟩ := o
  obtain ⟨⟨f0, f1, f2, f3⟩, ⟨f4, f5⟩, f6, f7⟩ := hF.out
  simp only at f0 f1 f2 f3 f4 f5 f6 f7
  dsimp only at HI
  obtain ⟨ao, cap, hv, _, _⟩ := (HI.out w (Turns.of_below (Below.refl _ _))).1
  subst hv
  dsimp only [opV, OV.op]
  have W1 := (Below.refl w.heap.size w).alloc (Nat.le_refl _) (.cells #[.int .i64 k, .int .i64 id, .int .i64 t', .int .i64 at', .string nm, .string tx, .slice ao l.length cap] 29)
  have hR := heap_alloc_new w (.cells #[.int .i64 k, .int .i64 id, .int .i64 t', .int .i64 at', .string nm, .string tx, .slice ao l.length cap] 29)
  obtain ⟨wb, hwb⟩ : ∃ wb, w.alloc (.cells #[.int .i64 k, .int .i64 id, .int .i64 t', .int .i64 at', .string nm, .string tx, .slice ao l.length cap] 29) = wb := ⟨_, rfl⟩
  rw [hwb] at W1 hR
  have T1 := hid (h.out.below W1)
  have HI1 : Hid (∀ w', Turns [tb] wb w' → ItemsIn (.slice ao l.length cap) l w') := hid fun w' hw' => HI.out w' ((Turns.of_below W1).trans hw' (fun b hb => Or.inl hb))
  have I1 := hid (HI1.out wb (Turns.of_below (Below.refl _ _)))
  have FC : Hid (∀ x ∈ l, FitC x.1) := hid f7
  have HT1 := hid (ht.out.below W1)
  have HF := hid hg.out.fine
  have HW := hid W1
  have HLT : Hid (∀ i ∈ ids f, i < nx) := hid fun i hi => (hg.out.lt i hi).2
  have x1 := hg.out.nx1
  have x2 := hg.out.nx2
  have y0 : wb.cell? ⟨w.heap.size, 0, none⟩ = some (.int .i64 k) := by rw [Lib.cell_of_heap hR]; rfl
  have y1 : wb.cell? ⟨w.heap.size, 1, none⟩ = some (.int .i64 id) := by rw [Lib.cell_of_heap hR]; rfl
  have y2 : wb.cell? ⟨w.heap.size, 2, none⟩ = some (.int .i64 t') := by rw [Lib.cell_of_heap hR]; rfl
  have y3 : wb.cell? ⟨w.heap.size, 3, none⟩ = some (.int .i64 at') := by rw [Lib.cell_of_heap hR]; rfl
  have y4 : wb.cell? ⟨w.heap.size, 4, none⟩ = some (.string nm) := by rw [Lib.cell_of_heap hR]; rfl
  have y5 : wb.cell? ⟨w.heap.size, 5, none⟩ = some (.string tx) := by rw [Lib.cell_of_heap hR]; rfl
  have y6 : wb.cell? ⟨w.heap.size, 6, none⟩ = some (.slice ao l.length cap) := by rw [Lib.cell_of_heap hR]; rfl
  clear W1 hR f7 f0
  by_cases k0 : k = 0
  · subst k0
    have e : doF f nx ⟨0, id, t', at', nm, tx, l.map (·.1)⟩ = loadF f nx (l.map (·.1)) := by unfold doF; rw [if_pos rfl]
    rw [e]
    have CA := hid (load_any2 T1 _ l I1 FC HT1 x1 x2)
    obtain ⟨r, HR⟩ : ∃ r, Hid (loadF f nx (l.map (·.1)) = r) := ⟨_, hid rfl⟩
    rw [HR.out] at CA ⊢
    clear e
    go_enter Tryd.func9, Tryd.ntmps9
    go_wp2_with fail
    refine CA.out.mono ?_
    rintro q w2 ⟨rfl, hL⟩
    have HLF := hid (Left.of_below HW.out hL)
    clear hL CA
    go_wp2
    go_ret2
    exact ⟨rfl, HLF.out⟩
  · by_cases k1 : k = 1
    · subst k1
      have e : doF f nx ⟨1, id, t', at', nm, tx, l.map (·.1)⟩ = insertF f nx id at' (l.map (·.1)) := by unfold doF; rfl
      rw [e]
      obtain ⟨r, HR⟩ : ∃ r, Hid (insertF f nx id at' (l.map (·.1)) = r) := ⟨_, hid rfl⟩
      have CA := hid (insert_any T1 HF x1 x2 HLT id at' f1 _ l f6 HI1 FC HT1)
      rw [HR.out] at CA ⊢
      clear e
      go_enter Tryd.func9, Tryd.ntmps9
      go_wp2_with fail
      refine CA.out.mono ?_
      rintro q w2 ⟨rfl, hL⟩
      have HLF := hid (Left.of_below HW.out hL)
      clear hL CA
      go_wp2
      go_ret2
      exact ⟨rfl, HLF.out⟩
    · by_cases k2 : k = 2
      · subst k2
        have e : doF f nx ⟨2, id, t', at', nm, tx, l.map (·.1)⟩ = (((deleteF f id).1, nx), 0, (deleteF f id).2) := by unfold doF; rfl
        rw [e]
        obtain ⟨r, HR⟩ : ∃ r, Hid (deleteF f id = r) := ⟨_, hid rfl⟩
        have CA := hid (delete_any T1 HF (hid hg.out.one) id f1)
        rw [HR.out] at CA ⊢
        clear e
        go_enter Tryd.func9, Tryd.ntmps9
        go_wp2_with fail
        refine CA.out.mono ?_
        rintro q w2 ⟨rfl, hL⟩
        have HLF := hid (Left.of_below HW.out hL)
        clear hL CA
        go_wp2
        go_ret2
        exact ⟨rfl, HLF.out⟩
      · by_cases k3 : k = 3
        · subst k3
          have e : doF f nx ⟨3, id, t', at', nm, tx, l.map (·.1)⟩ = (((moveF f id t' at').1, nx), 0, (moveF f id t' at').2) := by unfold doF; rfl
          rw [e]
          obtain ⟨r, HR⟩ : ∃ r, Hid (moveF f id t' at' = r) := ⟨_, hid rfl⟩
          have CA := hid (move_any T1 HF (hid hg.out.one) (hid hg.out.kinds) id t' at' f1 f2)
          rw [HR.out] at CA ⊢
          clear e
          go_enter Tryd.func9, Tryd.ntmps9
          go_wp2_with fail
          refine CA.out.mono ?_
          rintro q w2 ⟨rfl, hL⟩
          have HLF := hid (Left.of_below HW.out hL)
          clear hL CA
          go_wp2
          go_ret2
          exact ⟨rfl, HLF.out⟩
        · by_cases k4 : k = 4
          · subst k4
            have e : doF f nx ⟨4, id, t', at', nm, tx, l.map (·.1)⟩ = (((setAttrF f id nm tx).1, nx), 0, (setAttrF f id nm tx).2) := by unfold doF; rfl
            rw [e]
            obtain ⟨r, HR⟩ : ∃ r, Hid (setAttrF f id nm tx = r) := ⟨_, hid rfl⟩
            have CA := hid (setAttr_any T1 HF id f1 nm tx f4 f5 HT1 (hid hg.out.attrs) r.1 r.2 HR)
            rw [HR.out]
            clear e
            go_enter Tryd.func9, Tryd.ntmps9
            go_wp2_with fail
            refine CA.out.mono ?_
            rintro q w2 ⟨rfl, hL⟩
            have HLF := hid (Left.of_below HW.out hL)
            clear hL CA
            go_wp2
            go_ret2
            exact ⟨rfl, HLF.out⟩
          · by_cases k5 : k = 5
            · subst k5
              have e : doF f nx ⟨5, id, t', at', nm, tx, l.map (·.1)⟩ = (((delAttrF f id nm).1, nx), 0, (delAttrF f id nm).2) := by unfold doF; rfl
              rw [e]
              obtain ⟨r, HR⟩ : ∃ r, Hid (delAttrF f id nm = r) := ⟨_, hid rfl⟩
              have CA := hid (delAttr_any T1 HF id f1 nm (hid hg.out.attrs) r.1 r.2 HR)
              rw [HR.out]
              clear e
              go_enter Tryd.func9, Tryd.ntmps9
              go_wp2_with fail
              refine CA.out.mono ?_
              rintro q w2 ⟨rfl, hL⟩
              have HLF := hid (Left.of_below HW.out hL)
              clear hL CA
              go_wp2
              go_ret2
              exact ⟨rfl, HLF.out⟩
            · by_cases k6 : k = 6
              · subst k6
                have e : doF f nx ⟨6, id, t', at', nm, tx, l.map (·.1)⟩ = (((setTextF f id tx).1, nx), 0, (setTextF f id tx).2) := by unfold doF; rfl
                rw [e]
                obtain ⟨r, HR⟩ : ∃ r, Hid (setTextF f id tx = r) := ⟨_, hid rfl⟩
                have CA := hid (setText_any T1 (hid hg.out.nd) id f1 tx f5 HT1 r.1 r.2 HR)
                rw [HR.out]
                clear e
                go_enter Tryd.func9, Tryd.ntmps9
                go_wp2_with fail
                refine CA.out.mono ?_
                rintro q w2 ⟨rfl, hL⟩
                have HLF := hid (Left.of_below HW.out hL)
                clear hL CA
                go_wp2
                go_ret2
                exact ⟨rfl, HLF.out⟩
              · have e : doF f nx ⟨k, id, t', at', nm, tx, l.map (·.1)⟩ = ((f, nx), 0, 0) := by
                  unfold doF
                  simp only
                  rw [if_neg k0, if_neg k1, if_neg k2, if_neg k3, if_neg k4, if_neg k5, if_neg k6]
                rw [e]
                have z0 : (k == 0) = false := by simpa using k0
                have z1 : (k == 1) = false := by simpa using k1
                have z2 : (k == 2) = false := by simpa using k2
                have z3 : (k == 3) = false := by simpa using k3
                have z4 : (k == 4) = false := by simpa using k4
                have z5 : (k == 5) = false := by simpa using k5
                have z6 : (k == 6) = false := by simpa using k6
                clear e
                go_enter Tryd.func9, Tryd.ntmps9
                go_wp2
                go_ret2
                exact ⟨rfl, Left.same h.out HW.out⟩
end
end N
end Go.Proofs.YtidccohjehegjaaDoor
