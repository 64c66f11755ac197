/- PROVED: of any items of bulk at most 1048576, ScribeOwn returns true: what is made normal is the caller's own; the items read afterwards as they read before. Its conditions: the table of glyph lies as the program's text lays it. -/
import Derived.Test.YtmnegpdegfianaaDoorS7
namespace Go.Proofs.YtmnegpdegfianaaDoor
open Go.ChangeShapes Go.WideShapes Go.ChangeAt Go.RowKit Go.Shelf
/-- A row of one's own whose parts may be written over. -/
structure Mine (B : Nat) (V : Value) (l : List IV) (X : World) : Prop where
  row : l ≠ [] → ∃ g cap cur, V = .slice (some ⟨g, 0, none⟩) l.length cap ∧ B ≤ g ∧ X.heap[g]? = some (.cells cur 32 (0, 0)) ∧ l.length * 5 ≤ cur.size ∧ ∀ j (h : j < l.length), cur[j * 5 + 4]? = some l[j].2
  atts : ∀ x ∈ l, ∃ ao ca, x.2 = .slice ao x.1.attrs.length ca ∧ (x.1.attrs ≠ [] → ∃ ga cura, ao = some ⟨ga, 0, none⟩ ∧ B ≤ ga ∧ X.heap[ga]? = some (.cells cura 34 (0, 0)) ∧ x.1.attrs.length * 2 ≤ cura.size)
theorem mine_of {B : Nat} {V : Value} {l : List IV} {X : World} (h : ItmRow B V l X) : Mine B V l X := by
  refine ⟨fun hne => ?_, fun x hx => ?_⟩
  · have hpos : 0 < l.length := List.length_pos_iff.2 hne
    rcases h.1.2 with ⟨_, hz⟩ | ⟨g, cap, cur, rfl, h1, h2, h3, h4, h5, h6⟩
    · omega
    · refine ⟨g, cap, cur, rfl, h1, h2, by omega, fun j hj => ?_⟩
      obtain ⟨_, _, _, _, e4⟩ := encI_at l j hj
      rw [← h6, List.getElem?_take] at e4
      split at e4
      · rw [← Array.getElem?_toList]; exact e4
      · cases e4
  · rcases (h.2 x hx).2 with ⟨e, hz⟩ | ⟨g, cap, cur, e, h1, h2, h3, h4, h5, h6⟩
    · refine ⟨none, 0, by rw [e, hz], fun hne => ?_⟩
      have := List.length_pos_iff.2 hne
      omega
    · exact ⟨_, cap, e, fun _ => ⟨g, cur, rfl, h1, h2, by omega⟩⟩
/-- A name is written over. -/
theorem Mine.name {B : Nat} {V : Value} {l : List IV} {X : World} (h : Mine B V l X) {g cap j : Nat} (hV : V = .slice (some ⟨g, 0, none⟩) l.length cap) (hj : j < l.length) (u : Value) : Mine B V l (X.setCell ⟨g, j * 5 + 2, none⟩ u) := by
  have hne : l ≠ [] := by rintro rfl; simp at hj
  obtain ⟨g', cap', cur, e, h1, h2, h3, h4⟩ := h.row hne
  rw [hV] at e
  simp only [Value.slice.injEq, Option.some.injEq, Addr.mk.injEq, true_and, and_true] at e
  obtain ⟨rfl, _, rfl⟩ := e
  refine ⟨fun _ => ⟨g, cap, _, hV, h1, heap_setCell_same _ _ _ _ _ _ h2, by simpa using h3, fun q hq => ?_⟩, fun x hx => ?_⟩
  · rw [Array.getElem?_setIfInBounds_ne (by omega)]
    exact h4 q hq
  · obtain ⟨ao, ca, e1, e2⟩ := h.atts x hx
    refine ⟨ao, ca, e1, fun hn => ?_⟩
    obtain ⟨ga, cura, a1, a2, a3, a4⟩ := e2 hn
    have hgne : ga ≠ g := by
      rintro rfl
      rw [h2] at a3
      simp only [Option.some.injEq, Obj.cells.injEq] at a3
      exact absurd a3.2.1 (by decide)
    exact ⟨ga, cura, a1, a2, by rw [heap_setCell_other _ _ _ _ hgne]; exact a3, a4⟩
/-- A value is written over. -/
theorem Mine.val {B : Nat} {V : Value} {l : List IV} {X : World} (h : Mine B V l X) {ga o : Nat} {cura : Array Value} (hg : X.heap[ga]? = some (.cells cura 34 (0, 0))) (u : Value) : Mine B V l (X.setCell ⟨ga, o, none⟩ u) := by
  refine ⟨fun hne => ?_, fun x hx => ?_⟩
  · obtain ⟨g', cap', cur, e, h1, h2, h3, h4⟩ := h.row hne
    have hgne : g' ≠ ga := by
      rintro rfl
      rw [h2] at hg
      simp only [Option.some.injEq, Obj.cells.injEq] at hg
      exact absurd hg.2.1 (by decide)
    exact ⟨g', cap', cur, e, h1, by rw [heap_setCell_other _ _ _ _ hgne]; exact h2, h3, h4⟩
  · obtain ⟨ao, ca, e1, e2⟩ := h.atts x hx
    refine ⟨ao, ca, e1, fun hn => ?_⟩
    obtain ⟨gb, curb, a1, a2, a3, a4⟩ := e2 hn
    by_cases hgb : gb = ga
    · subst hgb
      rw [hg] at a3
      simp only [Option.some.injEq, Obj.cells.injEq, and_true] at a3
      subst a3
      exact ⟨gb, _, a1, a2, heap_setCell_same _ _ _ _ _ _ hg, by simpa using a4⟩
    · exact ⟨gb, curb, a1, a2, by rw [heap_setCell_other _ _ _ _ hgb]; exact a3, a4⟩
/-- One more item, of one's own. -/
theorem own_push {w wr Z w6 : World} {V3 va : Value} {lg : List IV} {x : P.Itm} {ob : Obj} {g' cap' : Nat} (hrow : ItmRow w.heap.size V3 lg wr) (hb : Below w.heap.size w wr) (hz : Below wr.heap.size wr Z) (hva : Z.ownsRow w.heap.size 34 2 va x.attrs.length (encL x.attrs)) (hown : w6.ownsRow w.heap.size 32 5 (.slice (some ⟨g', 0, none⟩) (lg.length + 1) cap') (lg.length + 1) (encI lg ++ encI1 (x, va))) (hgrow : World.grownBy (Z.alloc ob) w6 V3.ownBlock) :
    ItmRow w.heap.size (.slice (some ⟨g', 0, none⟩) (lg.length + 1) cap') (lg ++ [(x, va)]) w6 ∧ Below w.heap.size w w6 := by
  have hrz := hrow.below hz
  have hbz := hb.trans (hz.mono hb.size)
  have hA := below_new Z ob
  refine ⟨⟨by rw [encI_snoc, List.length_append]; exact hown, fun y hy => ?_⟩, (hbz.trans (hA.mono hbz.size)).grown hgrow (Nat.le_trans hbz.size hA.size) (fun k hk => ?_)⟩
  · have keep : ∀ {y : Value} {q : Nat} {xs : List Value}, Z.ownsRow w.heap.size 34 2 y q xs → w6.ownsRow w.heap.size 34 2 y q xs := fun h => World.ownsRow.kept (World.ownsRow.alloc h _) hgrow (rows_apart h hrz.1 (by decide))
    rcases List.mem_append.1 hy with hy | hy
    · exact keep (hrz.2 y hy)
    · simp only [List.mem_singleton] at hy
      subst hy
      exact keep hva
  · rcases hrow.1.2 with ⟨rfl, _⟩ | ⟨q, _, _, rfl, hq, _⟩
    · cases hk
    · simp only [Value.ownBlock, Option.some.injEq] at hk
      omega
namespace ScribeOwn
set_option maxRecDepth 100000 in
set_option maxHeartbeats 8000000 in
theorem walk (V : Value) (l : List IV) {w : World} (I : Hid (ItemsIn V l w)) (F : Hid (∀ x ∈ l, FitU x.1)) (HS : Hid ((l.map fun x => weighI x.1).sum ≤ 1048576)) (ht : Tab w) :
    Calls Tryd.prog 6 #[V] w fun e w' => e = .returned (.bool true) ∧ Below w.heap.size w w' := by
  have HT := hid ht
  have R := hid (rb_of F.out HS.out)
  obtain ⟨ao, cap, rfl, hl, hc⟩ := I.out.1
  have HC := hid hc
  have hln : l.length ≤ 1048576 := by have := R.out.len; rwa [List.length_map] at this
  clear hc ht F HS
  obtain ⟨i0, I0, I1, I2, I3⟩ := info_parts infoItm
  obtain ⟨j0, J0, J1, J2, J3⟩ := info_parts infoAtt
  go_enter Tryd.func6, Tryd.ntmps6
  go_wp2
  go_loopw [3, 11] (fun v3 v11 X => ∃ (i : Nat) (lg : List IV), v11 = .int .i64 (i : Int) ∧ i ≤ l.length ∧ Hid (ItmRow w.heap.size v3 lg X ∧ lg.map (·.1) = (l.map (·.1)).take i ∧ Below w.heap.size w X)) (fun _ v11 _ => l.length - (intOf v11).toNat)
  case atStart => exact ⟨0, [], rfl, by omega, hid ⟨⟨⟨by simp [encI], Or.inl ⟨rfl, rfl⟩⟩, fun x hx => absurd hx (List.not_mem_nil)⟩, by simp, Below.refl _ _⟩⟩
  case round =>
    obtain ⟨i, lg, rfl, hi, HG⟩ := hrel
    obtain ⟨oa, on, oc, rfl⟩ : ∃ a n c, u3 = .slice a n c := by
      rcases HG.out.1.1.2 with ⟨rfl, _⟩ | ⟨g, cap, cur, rfl, _⟩
      · exact ⟨_, _, _, rfl⟩
      · exact ⟨_, _, _, rfl⟩
    by_cases h1 : i < l.length
    · have h1' : (i : Int) < (l.length : Int) := by omega
      obtain ⟨g, o, rfl, hg, hc⟩ := HC.out (by rintro rfl; simp at h1)
      obtain ⟨k0, k1, k2, k3, k4⟩ := hc i h1
      have c0 := (HG.out.2.2.cell (p := ⟨g, o + i * 5, none⟩) hg).trans k0
      have c1 := (HG.out.2.2.cell (p := ⟨g, o + i * 5 + 1, none⟩) hg).trans k1
      have c2 := (HG.out.2.2.cell (p := ⟨g, o + i * 5 + 2, none⟩) hg).trans k2
      have c3 := (HG.out.2.2.cell (p := ⟨g, o + i * 5 + 3, none⟩) hg).trans k3
      have c4 := (HG.out.2.2.cell (p := ⟨g, o + i * 5 + 4, none⟩) hg).trans k4
      have HAT : Hid (AttrsIn l[i].2 l[i].1.attrs wr) := hid ((I.out.2 _ (List.getElem_mem h1)).below HG.out.2.2)
      have HAB : Hid (l[i].1.attrs.length * 32 ≤ 140737488355328) := hid (by have := (R.out.fit _ (List.mem_map.2 ⟨_, List.getElem_mem h1, rfl⟩)).2; omega)
      have HTK : Hid ((l.map (·.1)).take (i + 1) = (l.map (·.1)).take i ++ [l[i].1]) := hid (by rw [List.take_succ_eq_append_getElem (by simpa using h1)]; simp)
      clear k0 k1 k2 k3 k4 hc hg
      generalize l[i].1 = x at *
      obtain ⟨lv, kd, nm, tx, ats⟩ := x
      dsimp only at *
      generalize l[i].2 = vx at *
      obtain ⟨aa, ca, rfl, hla, hca⟩ := HAT.out
      have HCA := hid hca
      clear hca HAT
      have hlg : lg.length = i := by have := congrArg List.length HG.out.2.1; simpa [Nat.min_eq_left hi] using this
      have HM : Hid (lg.length + 1 ≤ maxLen ∧ (lg.length + 1) * 72 ≤ 140737488355328) := hid (by unfold maxLen; omega)
      clear hlg
      have B1 := hid (below_new wr (.cells #[.int .i64 lv, .int .i64 kd, .string nm, .string tx, .slice aa ats.length ca] 32))
      have B2 := hid (below_new (wr.alloc (.cells #[.int .i64 lv, .int .i64 kd, .string nm, .string tx, .slice aa ats.length ca] 32)) (.cells #[] 34))
      have N1 := hid (heap_alloc_new wr (.cells #[.int .i64 lv, .int .i64 kd, .string nm, .string tx, .slice aa ats.length ca] 32))
      by_cases hat : ats = []
      · subst hat
        simp only [List.length_nil] at *
        cases aa with
        | none =>
          have HBZ : Hid (Below wr.heap.size wr ((wr.alloc (.cells #[.int .i64 lv, .int .i64 kd, .string nm, .string tx, .slice (some ⟨wr.heap.size + 1, 0, none⟩) 0 0] 32)).alloc (.cells #[] 34))) := hid ((below_new _ _).trans ((below_new _ _).mono (below_new _ _).size))
          have HVA : Hid (((wr.alloc (.cells #[.int .i64 lv, .int .i64 kd, .string nm, .string tx, .slice (some ⟨wr.heap.size + 1, 0, none⟩) 0 0] 32)).alloc (.cells #[] 34)).ownsRow w.heap.size 34 2 (.slice (some ⟨wr.heap.size + 1, 0, none⟩) 0 0) 0 (encL [])) := hid (by
            have h := World.ownsRow_made (wr.alloc (.cells #[.int .i64 lv, .int .i64 kd, .string nm, .string tx, .slice (some ⟨wr.heap.size + 1, 0, none⟩) 0 0] 32)) (e := 34) (size := 2) (base := w.heap.size) #[] 0 (Nat.le_trans HG.out.2.2.size (below_new _ _).size) (Nat.zero_le _) (by simp)
            simpa [encL] using h)
          have HNW : Hid ((World.alloc ((wr.alloc (.cells #[.int .i64 lv, .int .i64 kd, .string nm, .string tx, .slice (some ⟨wr.heap.size + 1, 0, none⟩) 0 0] 32)).alloc (.cells #[] 34)) (.cells #[.int .i64 lv, .int .i64 kd, .string nm, .string tx, .slice (some ⟨wr.heap.size + 1, 0, none⟩) 0 0] 32)).heap[wr.heap.size + 1 + 1]? = some (.cells #[.int .i64 lv, .int .i64 kd, .string nm, .string tx, .slice (some ⟨wr.heap.size + 1, 0, none⟩) 0 0] 32 (0, 0))) := hid (by
            have h := heap_alloc_new ((wr.alloc (.cells #[.int .i64 lv, .int .i64 kd, .string nm, .string tx, .slice (some ⟨wr.heap.size + 1, 0, none⟩) 0 0] 32)).alloc (.cells #[] 34)) (.cells #[.int .i64 lv, .int .i64 kd, .string nm, .string tx, .slice (some ⟨wr.heap.size + 1, 0, none⟩) 0 0] 32)
            have e : (World.heap ((wr.alloc (.cells #[.int .i64 lv, .int .i64 kd, .string nm, .string tx, .slice (some ⟨wr.heap.size + 1, 0, none⟩) 0 0] 32)).alloc (.cells #[] 34))).size = wr.heap.size + 1 + 1 := by simp
            rw [e] at h
            exact h)
          go_wp2_with (at_builtin; refine wpList_append_lies _ rfl (.tmp 20) (.tmp 22) 22 rfl w.heap.size 32 i0 (.agg #[.int .i64 0, .int .i64 0, .string ⟨#[]⟩, .string ⟨#[]⟩, .slice none 0 0]) 5 72 Tryd.underlying22 I0 I1 I2 I3 rfl (by decide) (.slice oa on oc) lg.length (encI lg) rfl (World.ownsRow.alloc (row_below HG.out.1.1 HBZ.out) _) ⟨wr.heap.size + 1 + 1, 0, none⟩ 1 1 [.int .i64 lv, .int .i64 kd, .string nm, .string tx, .slice (some ⟨wr.heap.size + 1, 0, none⟩) 0 0] rfl rfl (World.news_of_block HNW.out) ?k1 (by decide) HM.out.1 HM.out.2 ?k2 _ rfl ?_)
          case k1 =>
            intro u hu
            simp only [List.mem_cons, List.not_mem_nil, or_false] at hu
            rcases hu with rfl | rfl | rfl | rfl | rfl <;> rfl
          case k2 => exact Nat.le_trans HG.out.2.2.size (Nat.le_trans HBZ.out.size (below_new _ _).size)
          intro g' cap' w6 hown hgrow _ _
          have HP := hid (own_push (x := ⟨lv, kd, nm, tx, []⟩) HG.out.1 HG.out.2.2 HBZ.out HVA.out hown hgrow)
          clear hown hgrow HBZ HVA HNW c0 c1 c2 c3 c4
          go_wp2
          go_roundw
          case rel => exact ⟨i + 1, _, by go_num, by omega, hid ⟨HP.out.1, by rw [HTK.out, ← HG.out.2.1]; simp, HP.out.2⟩⟩
          case measure => (simp [intOf]; try omega)
        | some aa =>
          have HBZ : Hid (Below wr.heap.size wr ((wr.alloc (.cells #[.int .i64 lv, .int .i64 kd, .string nm, .string tx, .slice (some ⟨wr.heap.size + 1, 0, none⟩) 0 0] 32)).alloc (.cells #[] 34))) := hid ((below_new _ _).trans ((below_new _ _).mono (below_new _ _).size))
          have HVA : Hid (((wr.alloc (.cells #[.int .i64 lv, .int .i64 kd, .string nm, .string tx, .slice (some ⟨wr.heap.size + 1, 0, none⟩) 0 0] 32)).alloc (.cells #[] 34)).ownsRow w.heap.size 34 2 (.slice (some ⟨wr.heap.size + 1, 0, none⟩) 0 0) 0 (encL [])) := hid (by
            have h := World.ownsRow_made (wr.alloc (.cells #[.int .i64 lv, .int .i64 kd, .string nm, .string tx, .slice (some ⟨wr.heap.size + 1, 0, none⟩) 0 0] 32)) (e := 34) (size := 2) (base := w.heap.size) #[] 0 (Nat.le_trans HG.out.2.2.size (below_new _ _).size) (Nat.zero_le _) (by simp)
            simpa [encL] using h)
          have HNW : Hid ((World.alloc ((wr.alloc (.cells #[.int .i64 lv, .int .i64 kd, .string nm, .string tx, .slice (some ⟨wr.heap.size + 1, 0, none⟩) 0 0] 32)).alloc (.cells #[] 34)) (.cells #[.int .i64 lv, .int .i64 kd, .string nm, .string tx, .slice (some ⟨wr.heap.size + 1, 0, none⟩) 0 0] 32)).heap[wr.heap.size + 1 + 1]? = some (.cells #[.int .i64 lv, .int .i64 kd, .string nm, .string tx, .slice (some ⟨wr.heap.size + 1, 0, none⟩) 0 0] 32 (0, 0))) := hid (by
            have h := heap_alloc_new ((wr.alloc (.cells #[.int .i64 lv, .int .i64 kd, .string nm, .string tx, .slice (some ⟨wr.heap.size + 1, 0, none⟩) 0 0] 32)).alloc (.cells #[] 34)) (.cells #[.int .i64 lv, .int .i64 kd, .string nm, .string tx, .slice (some ⟨wr.heap.size + 1, 0, none⟩) 0 0] 32)
            have e : (World.heap ((wr.alloc (.cells #[.int .i64 lv, .int .i64 kd, .string nm, .string tx, .slice (some ⟨wr.heap.size + 1, 0, none⟩) 0 0] 32)).alloc (.cells #[] 34))).size = wr.heap.size + 1 + 1 := by simp
            rw [e] at h
            exact h)
          go_wp2_with (at_builtin; refine wpList_append_lies _ rfl (.tmp 20) (.tmp 22) 22 rfl w.heap.size 32 i0 (.agg #[.int .i64 0, .int .i64 0, .string ⟨#[]⟩, .string ⟨#[]⟩, .slice none 0 0]) 5 72 Tryd.underlying22 I0 I1 I2 I3 rfl (by decide) (.slice oa on oc) lg.length (encI lg) rfl (World.ownsRow.alloc (row_below HG.out.1.1 HBZ.out) _) ⟨wr.heap.size + 1 + 1, 0, none⟩ 1 1 [.int .i64 lv, .int .i64 kd, .string nm, .string tx, .slice (some ⟨wr.heap.size + 1, 0, none⟩) 0 0] rfl rfl (World.news_of_block HNW.out) ?k1 (by decide) HM.out.1 HM.out.2 ?k2 _ rfl ?_)
          case k1 =>
            intro u hu
            simp only [List.mem_cons, List.not_mem_nil, or_false] at hu
            rcases hu with rfl | rfl | rfl | rfl | rfl <;> rfl
          case k2 => exact Nat.le_trans HG.out.2.2.size (Nat.le_trans HBZ.out.size (below_new _ _).size)
          intro g' cap' w6 hown hgrow _ _
          have HP := hid (own_push (x := ⟨lv, kd, nm, tx, []⟩) HG.out.1 HG.out.2.2 HBZ.out HVA.out hown hgrow)
          clear hown hgrow HBZ HVA HNW c0 c1 c2 c3 c4
          go_wp2
          go_roundw
          case rel => exact ⟨i + 1, _, by go_num, by omega, hid ⟨HP.out.1, by rw [HTK.out, ← HG.out.2.1]; simp, HP.out.2⟩⟩
          case measure => (simp [intOf]; try omega)
      · have hpa : 0 < ats.length := List.length_pos_iff.2 hat
        obtain ⟨ga, oa2, rfl, hga, hca⟩ := HCA.out hat
        have HNE : Hid (∀ j u, (encL ats)[j]? = some u → wr.cell? ((⟨ga, oa2, none⟩ : Addr).add j) = some u) := hid (by
          intro j u hu
          have hj : j < ats.length * 2 := by
            have := (List.getElem?_eq_some_iff.1 hu).1
            rwa [encL_length] at this
          rw [Addr.add_lit]
          obtain ⟨q, r, hr, rfl⟩ : ∃ q r, r < 2 ∧ j = q * 2 + r := ⟨j / 2, j % 2, Nat.mod_lt _ (by decide), by omega⟩
          have hq : q < ats.length := by omega
          obtain ⟨d0, d1⟩ := hca q hq
          obtain ⟨e0, e1⟩ := encL_at ats q hq
          match r, hr with
          | 0, _ => rw [Nat.add_zero] at hu ⊢; rw [e0] at hu; rw [d0]; exact hu
          | 1, _ => rw [e1] at hu; rw [← Nat.add_assoc, d1]; exact hu)
        have HON : Hid (∀ u ∈ encL ats, u.oneCell' = true) := hid (by
          intro u hu
          simp only [encL, encA, List.mem_flatMap] at hu
          obtain ⟨a, _, hu⟩ := hu
          simp only [List.mem_cons, List.not_mem_nil, or_false] at hu
          rcases hu with rfl | rfl <;> rfl)
        have HM1 : Hid (0 + ats.length ≤ maxLen ∧ (0 + ats.length) * 32 ≤ 140737488355328) := hid ⟨by have := HAB.out; unfold maxLen; omega, by have := HAB.out; omega⟩
        obtain ⟨Y, HY⟩ : ∃ Y, Hid ((wr.alloc (.cells #[.int .i64 lv, .int .i64 kd, .string nm, .string tx, .slice (some ⟨ga, oa2, none⟩) ats.length ca] 32)).alloc (.cells #[] 34) = Y) := ⟨_, hid rfl⟩
        have HBY : Hid (Below wr.heap.size wr Y) := hid (by rw [← HY.out]; exact B1.out.trans (B2.out.mono B1.out.size))
        have HRY : Hid (Y.ownsRow w.heap.size 34 2 (.slice (some ⟨wr.heap.size + 1, 0, none⟩) 0 0) 0 []) := hid (by
          have h := World.ownsRow_made (wr.alloc (.cells #[.int .i64 lv, .int .i64 kd, .string nm, .string tx, .slice (some ⟨ga, oa2, none⟩) ats.length ca] 32)) (e := 34) (size := 2) (base := w.heap.size) #[] 0 (Nat.le_trans HG.out.2.2.size B1.out.size) (Nat.zero_le _) (by simp)
          rw [← HY.out]
          simpa using h)
        have HOY : Hid (Y.heap[wr.heap.size]? = some (.cells #[.int .i64 lv, .int .i64 kd, .string nm, .string tx, .slice (some ⟨ga, oa2, none⟩) ats.length ca] 32 (0, 0))) := hid (by rw [← HY.out]; exact (B2.out.block _ (by simp)).trans N1.out)
        have hYs : Y.heap.size = wr.heap.size + 1 + 1 := by rw [← HY.out]; simp
        have HYS := hid hYs
        have HNY : Hid (∀ j u, (encL ats)[j]? = some u → Y.cell? ((⟨ga, oa2, none⟩ : Addr).add j) = some u) := hid (fun j u hu => by
          have := HNE.out j u hu
          rw [Addr.add_lit] at this ⊢
          exact (HBY.out.cell (p := ⟨ga, oa2 + j, none⟩) hga).trans this)
        clear hca HCA hat hYs
        go_wp2_with (at_builtin; (try rw [HY.out]); refine wpList_append_lies _ rfl (.tmp 15) (.tmp 17) 30 rfl w.heap.size 34 j0 (.agg #[.string ⟨#[]⟩, .string ⟨#[]⟩]) 2 32 Tryd.underlying30 J0 J1 J2 J3 rfl (by decide) (.slice (some ⟨wr.heap.size + 1, 0, none⟩) 0 0) 0 [] rfl HRY.out ⟨ga, oa2, none⟩ ats.length ca (encL ats) rfl (encL_length ats) HNY.out HON.out hpa HM1.out.1 HM1.out.2 ?k2 _ rfl ?_)
        case k2 => exact Nat.le_trans HG.out.2.2.size HBY.out.size
        intro ge cape w4 hown hgrow hgl hg4
        have hge : wr.heap.size < ge := by
          rcases hgl with h | h
          · simp only [Value.ownBlock, Option.some.injEq] at h
            omega
          · have := HYS.out
            omega
        have hb4 : Below wr.heap.size wr w4 := HBY.out.grown hgrow (by have := HYS.out; omega) (fun k hk => by
          simp only [Value.ownBlock, Option.some.injEq] at hk
          omega)
        have o4 : w4.heap[wr.heap.size]? = some (.cells #[.int .i64 lv, .int .i64 kd, .string nm, .string tx, .slice (some ⟨ga, oa2, none⟩) ats.length ca] 32 (0, 0)) := (hgrow.block _ (lt_of_block HOY.out) (by simp [Value.ownBlock])).trans HOY.out
        have hva4 : w4.ownsRow w.heap.size 34 2 (.slice (some ⟨ge, 0, none⟩) ats.length cape) ats.length (encL ats) := hown
        have HB4 := hid hb4
        have O4 := hid o4
        have HVA4 := hid hva4
        have z0 : w4.cell? ⟨wr.heap.size, 0, none⟩ = some (.int .i64 lv) := by rw [Lib.cell_of_heap o4]; rfl
        have z1 : w4.cell? ⟨wr.heap.size, 1, none⟩ = some (.int .i64 kd) := by rw [Lib.cell_of_heap o4]; rfl
        have z2 : w4.cell? ⟨wr.heap.size, 2, none⟩ = some (.string nm) := by rw [Lib.cell_of_heap o4]; rfl
        have z3 : w4.cell? ⟨wr.heap.size, 3, none⟩ = some (.string tx) := by rw [Lib.cell_of_heap o4]; rfl
        have z4 : w4.cell? ⟨wr.heap.size, 4, none⟩ = some (.slice (some ⟨ga, oa2, none⟩) ats.length ca) := by rw [Lib.cell_of_heap o4]; rfl
        have f4 : w4.frozen? ⟨wr.heap.size, 4, none⟩ = false := Lib.frozen_of_heap o4 4
        have HBZ : Hid (Below wr.heap.size wr (w4.setCell ⟨wr.heap.size, 4, none⟩ (.slice (some ⟨ge, 0, none⟩) ats.length cape))) := hid (hb4.setCell (p := ⟨wr.heap.size, 4, none⟩) (Nat.le_refl _) _)
        have HVA : Hid ((w4.setCell ⟨wr.heap.size, 4, none⟩ (.slice (some ⟨ge, 0, none⟩) ats.length cape)).ownsRow w.heap.size 34 2 (.slice (some ⟨ge, 0, none⟩) ats.length cape) ats.length (encL ats)) := hid (ownsRow_setCell_other hva4 (by simp [Value.ownBlock]; omega) _)
        have HNW : Hid ((World.alloc (w4.setCell ⟨wr.heap.size, 4, none⟩ (.slice (some ⟨ge, 0, none⟩) ats.length cape)) (.cells #[.int .i64 lv, .int .i64 kd, .string nm, .string tx, .slice (some ⟨ge, 0, none⟩) ats.length cape] 32)).heap[w4.heap.size]? = some (.cells #[.int .i64 lv, .int .i64 kd, .string nm, .string tx, .slice (some ⟨ge, 0, none⟩) ats.length cape] 32 (0, 0))) := hid (by
          have h := heap_alloc_new (w4.setCell ⟨wr.heap.size, 4, none⟩ (.slice (some ⟨ge, 0, none⟩) ats.length cape)) (.cells #[.int .i64 lv, .int .i64 kd, .string nm, .string tx, .slice (some ⟨ge, 0, none⟩) ats.length cape] 32)
          have e : (w4.setCell ⟨wr.heap.size, 4, none⟩ (.slice (some ⟨ge, 0, none⟩) ats.length cape)).heap.size = w4.heap.size := by simp
          rw [e] at h
          exact h)
        clear hown hgrow hgl hg4 hb4 o4 hva4 hge HBY HRY HOY HNY HY HYS HB4 O4 HVA4 HON HNE
        go_wp2_with (at_builtin; refine wpList_append_lies _ rfl (.tmp 20) (.tmp 22) 22 rfl w.heap.size 32 i0 (.agg #[.int .i64 0, .int .i64 0, .string ⟨#[]⟩, .string ⟨#[]⟩, .slice none 0 0]) 5 72 Tryd.underlying22 I0 I1 I2 I3 rfl (by decide) (.slice oa on oc) lg.length (encI lg) rfl (World.ownsRow.alloc (row_below HG.out.1.1 HBZ.out) _) ⟨w4.heap.size, 0, none⟩ 1 1 [.int .i64 lv, .int .i64 kd, .string nm, .string tx, .slice (some ⟨ge, 0, none⟩) ats.length cape] rfl rfl (World.news_of_block HNW.out) ?k1 (by decide) HM.out.1 HM.out.2 ?k2 _ rfl ?_)
        case k1 =>
          intro u hu
          simp only [List.mem_cons, List.not_mem_nil, or_false] at hu
          rcases hu with rfl | rfl | rfl | rfl | rfl <;> rfl
        case k2 => exact Nat.le_trans HG.out.2.2.size (Nat.le_trans HBZ.out.size (below_new _ _).size)
        intro g' cap' w6 hown hgrow _ _
        have HP := hid (own_push (x := ⟨lv, kd, nm, tx, ats⟩) HG.out.1 HG.out.2.2 HBZ.out HVA.out hown hgrow)
        clear hown hgrow HBZ HVA HNW c0 c1 c2 c3 c4 z0 z1 z2 z3 z4 f4
        go_wp2
        go_roundw
        case rel => exact ⟨i + 1, _, by go_num, by omega, hid ⟨HP.out.1, by rw [HTK.out, ← HG.out.2.1]; simp, HP.out.2⟩⟩
        case measure => (simp [intOf]; try omega)
    · have h1' : ¬ (i : Int) < (l.length : Int) := by omega
      obtain rfl : i = l.length := by omega
      obtain ⟨wn, rfl⟩ : ∃ wn, wn = wr := ⟨wr, rfl⟩
      have HLG : Hid (lg.map (·.1) = l.map (·.1)) := hid (by have := HG.out.2.1; rwa [← List.length_map (f := fun x : IV => x.1), List.take_length] at this)
      have hgn : on = lg.length := by
        rcases HG.out.1.1.2 with ⟨h, h0⟩ | ⟨g, cap, cur, h, _⟩
        · simp only [Value.slice.injEq] at h; omega
        · simp only [Value.slice.injEq] at h; exact h.2.1
      have NO := hid (normalR (.slice oa on oc) lg wn (hid (items_in HG.out.1)) (hid (by rw [HLG.out]; exact R.out)))
      clear hgn
      go_wp2_with fail
      refine NO.out.mono ?_
      rintro e w2 ⟨a6, n6, c6, l6, rfl, hm6, hr6, hb6⟩
      have hn6 : n6 = l6.length := by
        rcases hr6.1.2 with ⟨h, h0⟩ | ⟨g, cap, cur, h, _⟩
        · simp only [Value.slice.injEq] at h; omega
        · simp only [Value.slice.injEq] at h; exact h.2.1
      subst hn6
      have HMI := hid (mine_of hr6)
      have HB6 : Hid (Below wn.heap.size wn w2) := hid hb6
      have hl6 : l6.length ≤ 1048576 := by
        have := congrArg List.length hm6
        have h2 := S.normal_len (lg.map (·.1))
        rw [HLG.out] at h2
        simp only [List.length_map] at this h2
        rw [this]
        exact Nat.le_trans (by rw [HLG.out]; exact h2) hln
      have HA6 : Hid (∀ x ∈ l6, x.1.attrs.length ≤ 1048576) := hid (fun x hx => by
        have hx' : x.1 ∈ S.normalP (lg.map (·.1)) := by rw [← hm6]; exact List.mem_map.2 ⟨x, hx, rfl⟩
        rw [HLG.out] at hx'
        exact ((R.out.normal).fit _ hx').2)
      clear hm6 hr6 hb6 NO
      have HW6 : Hid (Below w.heap.size w w2) := hid (HG.out.2.2.trans (HB6.out.mono HG.out.2.2.size))
      go_wp2_with fail
      go_loopw [7, 29] (fun _ v29 X => ∃ i : Nat, v29 = .int .i64 (i : Int) ∧ i ≤ l6.length ∧ Hid (Mine wn.heap.size (.slice a6 l6.length c6) l6 X) ∧ Hid (Below wn.heap.size wn X)) (fun _ v29 _ => l6.length - (intOf v29).toNat)
      case atStart => exact ⟨0, rfl, by omega, HMI, HB6⟩
      case round =>
        clear HMI HB6 HW6
        obtain ⟨i, rfl, hi6, HMI, HB6⟩ := hrel
        by_cases h6 : i < l6.length
        · have h6' : (i : Int) < (l6.length : Int) := by omega
          obtain ⟨g6, cp6, cur6, e6, hB6, hg6, hs6, hc6⟩ := HMI.out.row (by rintro rfl; simp at h6)
          simp only [Value.slice.injEq] at e6
          obtain ⟨rfl, -, rfl⟩ := e6
          obtain ⟨ax, cx, ex, hx⟩ := HMI.out.atts _ (List.getElem_mem h6)
          have k4 : wr.cell? ⟨g6, i * 5 + 4, none⟩ = some (.slice ax l6[i].1.attrs.length cx) := by rw [Lib.cell_of_heap hg6, hc6 i h6, ex]
          obtain ⟨y2, k2⟩ : ∃ y, wr.cell? ⟨g6, i * 5 + 2, none⟩ = some y := ⟨_, by rw [Lib.cell_of_heap hg6]; exact Array.getElem?_eq_getElem (by omega)⟩
          have f2 := Lib.frozen_of_heap hg6 (i * 5 + 2)
          have hxl : l6[i].1.attrs.length ≤ 1048576 := HA6.out _ (List.getElem_mem h6)
          have HMN : Hid (∀ u, Mine wn.heap.size (.slice (some ⟨g6, 0, none⟩) l6.length c6) l6 (wr.setCell ⟨g6, i * 5 + 2, none⟩ u)) := hid (fun u => HMI.out.name rfl h6 u)
          have HBN : Hid (∀ u, Below wn.heap.size wn (wr.setCell ⟨g6, i * 5 + 2, none⟩ u)) := hid (fun u => HB6.out.setCell (p := ⟨g6, i * 5 + 2, none⟩) hB6 u)
          have HIN : Hid (l6[i] ∈ l6) := hid (List.getElem_mem h6)
          obtain ⟨na, HNA⟩ : ∃ na, Hid (l6[i].1.attrs.length = na) := ⟨_, hid rfl⟩
          rw [HNA.out] at k4 hxl ex
          have HEX := hid ex
          clear hg6 hc6 hx ex HMI HB6
          go_wp2_with fail
          have HM1 := hid (HMN.out (.string ⟨#[109, 105, 110, 101]⟩))
          have HB1 := hid (HBN.out (.string ⟨#[109, 105, 110, 101]⟩))
          generalize wr.setCell ⟨g6, i * 5 + 2, none⟩ (.string ⟨#[109, 105, 110, 101]⟩) = X1 at *
          clear HMN HBN k2 k4 f2
          go_loopw [8, 42] (fun _ v42 X => ∃ k : Nat, v42 = .int .i64 (k : Int) ∧ k ≤ na ∧ Hid (Mine wn.heap.size (.slice (some ⟨g6, 0, none⟩) l6.length c6) l6 X) ∧ Hid (Below wn.heap.size wn X)) (fun _ v42 _ => na - (intOf v42).toNat)
          case atStart => exact ⟨0, rfl, by omega, HM1, HB1⟩
          case round =>
            clear HM1 HB1
            obtain ⟨k, rfl, hk, HMK, HBK⟩ := hrel
            by_cases h7 : k < na
            · have h7' : (k : Int) < (na : Int) := by omega
              obtain ⟨g7, cp7, cur7, e7, hB7, hg7, hs7, hc7⟩ := HMK.out.row (by rintro rfl; simp at h6)
              simp only [Value.slice.injEq, Option.some.injEq, Addr.mk.injEq, true_and, and_true] at e7
              obtain ⟨rfl, rfl⟩ := e7
              obtain ⟨ax7, cx7, ex7, hx7⟩ := HMK.out.atts _ HIN.out
              rw [HEX.out, HNA.out] at ex7
              simp only [Value.slice.injEq, true_and] at ex7
              obtain ⟨rfl, rfl⟩ := ex7
              obtain ⟨ga, cura, rfl, hBa, hga, hsa⟩ := hx7 (by intro q; have := HNA.out; rw [q] at this; simp at this; omega)
              rw [HNA.out] at hsa
              have k4 : wr.cell? ⟨g6, i * 5 + 4, none⟩ = some (.slice (some ⟨ga, 0, none⟩) na cx) := by rw [Lib.cell_of_heap hg7, hc7 i h6, HEX.out]
              obtain ⟨y3, k3⟩ : ∃ y, wr.cell? ⟨ga, k * 2 + 1, none⟩ = some y := ⟨_, by rw [Lib.cell_of_heap hga]; exact Array.getElem?_eq_getElem (by omega)⟩
              have f3 := Lib.frozen_of_heap hga (k * 2 + 1)
              have HM2 := hid (HMK.out.val hga (o := k * 2 + 1) (.string ⟨#[109, 105, 110, 101]⟩))
              have HB2 := hid (HBK.out.setCell (p := ⟨ga, k * 2 + 1, none⟩) hBa (.string ⟨#[109, 105, 110, 101]⟩))
              clear hg7 hc7 hx7 hga HMK HBK
              go_wp2
              go_roundw
              case rel => exact ⟨k + 1, by go_num, by omega, HM2, HB2⟩
              case measure => (simp [intOf]; try omega)
            · have h7' : ¬ (k : Int) < (na : Int) := by omega
              go_wp2
              go_roundw
              case rel => exact ⟨i + 1, by go_num, by omega, HMK, HBK⟩
              case measure => (simp [intOf]; try omega)
        · have h6' : ¬ (i : Int) < (l6.length : Int) := by omega
          have HBF : Hid (Below w.heap.size w wr) := hid (HG.out.2.2.trans (HB6.out.mono HG.out.2.2.size))
          go_wp2_with fail
          refine (alive5_any wr (HT.out.below HBF.out)).mono ?_
          rintro e w8 ⟨rfl, hb8⟩
          have HB8 := hid (HBF.out.trans (hb8.mono HBF.out.size))
          have IG := hid (((items_in HG.out.1).below HB6.out).below hb8)
          clear hb8
          go_wp2_with fail
          refine (sameI_any _ _ lg l w8 IG (hid (I.out.below HB8.out)) HLG.out).mono ?_
          rintro e w9 ⟨rfl, hb9⟩
          have HB9 := hid (HB8.out.trans (hb9.mono HB8.out.size))
          clear hb9
          go_wp2
          go_ret
          exact ⟨rfl, HB9.out⟩
set_option maxRecDepth 100000 in
theorem contract (H : Type) (enc : TypeId × Value → H) (W : World) (base : Nat) (args : Array Value) (ds gs : List (DataW H)) (before : List MemPlace)
    (hval : ∀ (j : Nat) t v, Tryd.f6.params[j]? = some t → args[j]? = some v → Value.okWide Tryd.prog W .any base t v)
    (hW : DataW.Whole enc Tryd.prog Tryd.f6.params.toList Rows.scribeOwnSpec.vars false W args.toList ds gs before) (hL : laidMetH Tryd.prog laidT W)
    (hk : Rows.uptoSmall H (ds ++ gs) = true) :
    Calls Tryd.prog 6 args W fun e W' => ∃ v, e = .returned v ∧ Rows.scribeOwnSpec.post enc Tryd.prog Tryd.f6 false true false false W args v W' := by
  have hW' := hW
  obtain ⟨p, q, hA0, hV, rfl, hfz, hnd⟩ := hW
  have hA : DataW.TrodAll enc Tryd.prog W 0 (fun _ => true) true Tryd.f6.params.toList args.toList ds p := hA0
  rw [Tryd.params6] at hA hval
  obtain ⟨v0, vs0, d0, ds0, p0, q0, hargs, rfl, rfl, h0, r0⟩ := trodAll_cons hA
  obtain ⟨rfl, rfl, rfl⟩ := trodAll_nil r0
  obtain rfl : args = #[v0] := by cases args; simp_all
  obtain ⟨rfl, rfl⟩ := trodVars_none hV
  obtain ⟨l0, i0, f0, s0⟩ := open_itemsV (hval 0 22 v0 rfl rfl) h0
  have hk1 : Rows.uptoBulkAll _ ≤ 1048576 := of_decide_eq_true hk
  simp only [List.append_nil, Rows.uptoBulkAll] at hk1
  replace s0 : (l0.map fun x => weighI x.1).sum ≤ 1048576 := by omega
  replace f0 : ∀ x ∈ l0, FitU x.1 := fun x hx => (f0 x hx).le (by omega)
  have hT := tab_of hL
  clear hA0 hL hk hk1
  try simp only [List.append_nil] at hW'
  refine (walk v0 l0 (hid i0) (hid f0) (hid s0) hT).mono fun e W' ⟨he, hb⟩ => ?_
  subst he
  exact ⟨_, rfl, _, _, _, _, _, _, hW', trodAll_mk1 (shut_bool Tryd.underlying4 _), (trodAll_cons_mk (again_items (by kernel_rfl) (of_decide_eq_true (by kernel_rfl)) h0 (fun x hx => trod_lt h0 x hx) hb) trodAll_mk0), rfl, hb.frame _, fun h => by cases h⟩

theorem reads (os : Os) {H : Type} (enc : TypeId × Value → H) : ∃ places, DataW.whole enc Tryd.prog ((World.doorLaid Tryd.prog 400 os).forCall (fun _ _ => 0) ⟨#[], #[.slice none 0 0], []⟩).memory Tryd.f6.params.toList Rows.scribeOwnSpec.vars false #[Value.slice none 0 0].toList 8 = some ([.nil], [], places) :=
  ⟨[], by kernel_rfl⟩
theorem laid_met (os : Os) (args : Array Value) : laidMet Tryd.prog Rows.scribeOwnUptoRow.laid ((World.doorLaid Tryd.prog 400 os).forCall (fun _ _ => 0) ⟨#[], args, []⟩).memory :=
  laidMet_of_run' 8 (by kernel_rfl) (by kernel_rfl)

set_option maxRecDepth 100000 in
theorem lifted (os : Os) (started : os.Started) (H : Type) (enc : TypeId × Value → H) (F : Stop.Interp) :
    ReturnsInHanded {} Tryd.checked os 6 .any ((Rows.OpenSpec.upto Rows.scribeOwnSpec).preRow enc Tryd.prog Tryd.f6 Rows.scribeOwnUptoRow.domain false Rows.scribeOwnUptoRow.laid) (((Rows.OpenSpec.upto Rows.scribeOwnSpec).at F).post enc Tryd.prog Tryd.f6 false true false false) := by
  obtain ⟨places, hx⟩ := reads os enc
  refine returnsInHanded_of_row (C := Tryd.checked) (s := (Rows.OpenSpec.upto Rows.scribeOwnSpec)) own started (by kernel_rfl) Tryd.func6
    (witness_row_at (enc := enc) (C := Tryd.checked) false (World.doorLaid Tryd.prog 400 os) #[.slice none 0 0] rfl (by kernel_rfl) (by kernel_rfl) (by kernel_rfl)
      (OpenSpec.preRow_of_cond 8 hx (by kernel_rfl) (fun k hk => by cases hk; kernel_rfl) (by kernel_rfl) (laid_met os _))) ?_
  intro W base args ds gs before hval hW _ hcond hsz hL _ _
  exact contract H enc W base args ds gs before hval hW hL (hcond _ rfl)

theorem over : Rows.ScribeOwnUptoSaid :=
  OpenClaim.holds_of_cond 6 Tryd.f6 rfl rfl rfl rfl rfl rfl rfl ⟨rfl, rfl, rfl, rfl, rfl⟩ rfl rfl rfl rfl rfl (by kernel_rfl) Tryd.func6 (by kernel_rfl)
    (of_decide_eq_true (by kernel_rfl)) (by unfold Func.isWrapper; first | (rw [if_pos (by decide +kernel)]; kernel_rfl) | (rw [if_neg (by decide +kernel)]; exact ⟨rfl, rfl⟩))
    (fun os started H enc _ F => by rw [OpenClaim.pre_eq_preRow]; exact lifted os started H enc F)
theorem plain (f : FuncId) (fn : Func) (hf : Tryd.pinned.checked.prog.funcNamed Rows.scribeOwnUptoRow.func = some f) (hfn : Tryd.pinned.checked.prog.funcs[f]? = some fn) :
    false = Tryd.pinned.checked.prog.looks [] ∧ ∀ (j : Nat) t, fn.params[j]? = some t → Tryd.pinned.checked.prog.wantsStandIn t = false := by
  obtain rfl : f = 6 := Option.some.inj ((show Tryd.prog.funcNamed Rows.scribeOwnUptoRow.func = some 6 by kernel_rfl).symm.trans hf) |>.symm
  obtain rfl : fn = Tryd.f6 := (Option.some.inj (Tryd.func6.symm.trans hfn)).symm
  refine ⟨by kernel_rfl, fun j t ht => ?_⟩
  rw [Tryd.params6] at ht
  have hm : t ∈ [22] := by simpa using Array.mem_of_getElem? ht
  have hall : ([22].all fun u => !Tryd.prog.wantsStandIn u) = true := by kernel_rfl
  exact (show Tryd.prog.wantsStandIn t = false by simpa using List.all_eq_true.1 hall t hm)
end ScribeOwn

theorem scribeOwnUpto_holds : Rows.ScribeOwnUptoCardSaid :=
  Claim7.holds_tied_plain_at .later [] _ _ _ _ ScribeOwn.over (fun _ h => by cases h) (by kernel_rfl) (fun _ h => by cases h) scribeOwnUpto_row_tie rfl ⟨rfl, rfl⟩ (by kernel_rfl) rfl ScribeOwn.plain (by kernel_rfl)
#print axioms scribeOwnUpto_holds
end Go.Proofs.YtmnegpdegfianaaDoor
