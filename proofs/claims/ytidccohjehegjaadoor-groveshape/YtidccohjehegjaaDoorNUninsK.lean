/- The walk of grove's uninsertable. -/
import Derived.Test.YtidccohjehegjaaDoorNForestK
import Derived.Test.YtidccohjehegjaaDoorK11
namespace Go.Proofs.YtidccohjehegjaaDoor
open Go.RowKit Go.Shelf
namespace N
open T
/-- What is amiss with items as kids of a node. -/
def uninE (nx : Int) (n kids up : Nat) (at' : Int) (l : List P.Itm) : Int :=
  if at' < 0 ∨ (kids : Int) < at' then 69
  else if forestE l ≠ 0 then forestE l
  else if 40 ≤ (up : Int) + deepest l then 65
  else if 1000 < n + l.length ∨ 2147483647 < nx + l.length then 66
  else 0
theorem forest_levels : ∀ (l : List P.Itm) (prev : Option P.Itm), forestF prev l = 0 → ∀ x ∈ l, 0 ≤ x.level ∧ x.level ≤ topF prev + l.length
  | [], _, _, x, hx => by simp at hx
  | y :: l, prev, h, x, hx => by
    rw [forestF] at h
    by_cases q : y.level < 0 ∨ topF prev < y.level
    · rw [if_pos q] at h; cases h
    · rw [if_neg q] at h
      by_cases q2 : P.partsE y = 0
      · rw [if_neg (by simpa using q2)] at h
        have hy : 0 ≤ y.level ∧ y.level ≤ topF prev := by omega
        rcases List.mem_cons.1 hx with e | e
        · rw [e, List.length_cons]; omega
        · have := forest_levels l (some y) h x e
          have ht : topF (some y) ≤ y.level + 1 := top_le (some y)
          rw [List.length_cons]
          omega
      · rw [if_pos q2] at h
        exact absurd h q2
theorem deep_foldl : ∀ (l : List P.Itm) (a b : Int), a ≤ b → (∀ x ∈ l, x.level ≤ b) → l.foldl (fun a x => max a x.level) a ≤ b
  | [], _, _, h, _ => h
  | x :: l, a, b, h, hx => deep_foldl l _ b (by have := hx x (List.mem_cons_self ..); show max a x.level ≤ b; omega) fun y hy => hx y (List.mem_cons_of_mem _ hy)
theorem deep_ge : ∀ (l : List P.Itm) (a : Int), a ≤ l.foldl (fun a x => max a x.level) a
  | [], _ => Int.le_refl _
  | x :: l, a => Int.le_trans (by omega) (deep_ge l (max a x.level))
theorem deepest_le {l : List P.Itm} (h : forestE l = 0) : 0 ≤ deepest l ∧ deepest l ≤ l.length := by
  unfold forestE at h
  by_cases hl : l = []
  · rw [if_pos hl] at h; cases h
  · rw [if_neg hl] at h
    have := forest_levels l none h
    refine ⟨deep_ge l 0, deep_foldl l 0 _ (by omega) fun x hx => ?_⟩
    have h2 := (this x hx).2
    simp only [topF, Int.zero_add] at h2
    exact h2
theorem deepest_snoc (l : List P.Itm) (x : P.Itm) : deepest (l ++ [x]) = max (deepest l) x.level := by simp [deepest]
section
variable {B tb mb : Nat} {f : F} {nx : Int} {L : List NS} {w : World}
set_option maxRecDepth 100000 in
set_option maxHeartbeats 4000000 in
theorem unins_any (h : Hid (TreeIn B tb mb f nx L w)) (hf : Hid (Fine f)) (hnx : 1 ≤ nx) (hnx2 : nx ≤ 2147483647) (hLn : L.length ≤ 100000) (e : Nd) (s : Slot) (hm : Hid ((e, s) ∈ L)) (hem : e.id ∈ ids f) (at' : Int) (V : Value) (l : List IV) (hll : l.length ≤ 140737488355328) (I : Hid (ItemsIn V l w)) (F : Hid (∀ x ∈ l, FitC x.1)) (ht : Hid (Tab w)) (r : Int) (HR : Hid (uninE nx L.length e.kids.length (chain f 0 e.id).length at' (l.map (·.1)) = r)) :
    Calls Tryd.prog 36 #[.pointer (some ⟨tb, 0, none⟩), .pointer (some ⟨s.g, 0, none⟩), .int .i64 at', V] w fun q w' => q = .returned (.int .i64 r) ∧ Below w.heap.size w w' := by
  obtain ⟨ao, cap, rfl, hl, hc⟩ := I.out.1
  have HC := hid hc
  clear hc
  obtain ⟨d0, _, _, _, _, _, _, d7⟩ := (h.out.graph.nodes _ hm.out).cells
  obtain ⟨ka, kc, hkv⟩ := slice_of (h.out.graph.nodes _ hm.out).kids
  dsimp only at d0 d7 hkv
  rw [hkv] at d7
  have FO := hid (forest_any _ l I F ht)
  obtain ⟨fe, HFE⟩ : ∃ fe : Int, Hid (forestE (l.map (·.1)) = fe) := ⟨_, hid rfl⟩
  rw [HFE.out] at FO
  have hr := HR.out
  unfold uninE at hr
  rw [HFE.out, List.length_map] at hr
  clear hkv
  by_cases a1 : at' < 0
  · rw [if_pos (Or.inl a1)] at hr
    subst hr
    clear FO HFE
    go_enter Tryd.func36, Tryd.ntmps36
    go_wp2
    go_ret
    exact ⟨rfl, Below.refl _ _⟩
  · by_cases a2 : (e.kids.length : Int) < at'
    · rw [if_pos (Or.inr a2)] at hr
      subst hr
      clear FO HFE
      go_enter Tryd.func36, Tryd.ntmps36
      go_wp2
      go_ret
      exact ⟨rfl, Below.refl _ _⟩
    · rw [if_neg (fun q => q.elim a1 a2)] at hr
      have HRR := hid hr
      clear hr HR
      go_enter Tryd.func36, Tryd.ntmps36
      go_wp2_with fail
      refine FO.out.mono ?_
      rintro q w1 ⟨rfl, hb1⟩
      have HB1 := hid hb1
      clear hb1 FO
      by_cases a3 : fe = 0
      · subst a3
        have hr := HRR.out
        rw [if_neg (by simp)] at hr
        have HR3 := hid hr
        have hdp := deepest_le HFE.out
        rw [List.length_map] at hdp
        have d0' : w1.cell? ⟨s.g, 0, none⟩ = some (.int .i64 e.id) := (HB1.out.cell (p := ⟨s.g, 0, none⟩) (World.block_lt_of_cell? w _ d0)).trans d0
        clear hr HRR a1 a2 d0 d7
        go_wp2
        go_loopw [10, 31] (fun v10 v31 X => ∃ i : Nat, v31 = .int .i64 (i : Int) ∧ i ≤ l.length ∧ v10 = .int .i64 (deepest ((l.map (·.1)).take i)) ∧ Hid (Below w.heap.size w X)) (fun _ v31 _ => l.length - (intOf v31).toNat)
        case atStart => exact ⟨0, rfl, by omega, by simp [deepest], HB1⟩
        case round =>
          obtain ⟨i, rfl, hi, rfl, HG⟩ := hrel
          by_cases h1 : i < l.length
          · have h1' : (i : Int) < (l.length : Int) := by omega
            obtain ⟨g, o, rfl, hg, hc⟩ := HC.out (by rintro rfl; simp at h1)
            obtain ⟨k0, k1, k2, k3, k4⟩ := hc i h1
            have hB := HG.out
            have c0 := (hB.cell (p := ⟨g, o + i * 5, none⟩) hg).trans k0
            have c1 := (hB.cell (p := ⟨g, o + i * 5 + 1, none⟩) hg).trans k1
            have c2 := (hB.cell (p := ⟨g, o + i * 5 + 2, none⟩) hg).trans k2
            have c3 := (hB.cell (p := ⟨g, o + i * 5 + 3, none⟩) hg).trans k3
            have c4 := (hB.cell (p := ⟨g, o + i * 5 + 4, none⟩) hg).trans k4
            obtain ⟨oa, oc, hoa⟩ : ∃ oa oc, l[i].2 = .slice oa l[i].1.attrs.length oc := by
              obtain ⟨oa, oc, q, _⟩ := I.out.2 l[i] (List.getElem_mem h1)
              exact ⟨oa, oc, q⟩
            rw [hoa] at c4
            have hst : deepest ((l.map (·.1)).take (i + 1)) = max (deepest ((l.map (·.1)).take i)) l[i].1.level := by
              rw [List.take_succ_eq_append_getElem (by rw [List.length_map]; exact h1), deepest_snoc, List.getElem_map]
            have HST := hid hst
            clear hst
            generalize deepest ((l.map (·.1)).take i) = dm at *
            generalize l[i].1 = x at *
            clear hc k0 k1 k2 k3 k4 hoa
            have HB5 := hid (hB.alloc hB.size (.cells #[.int .i64 x.level, .int .i64 x.kind, .string x.name, .string x.text, .slice oa x.attrs.length oc] 49))
            clear hB
            go_wp2
            go_roundw
            case rel => exact ⟨i + 1, by go_num, by omega, by rw [HST.out], HB5⟩
            case measure => (simp [intOf]; try omega)
          · obtain rfl : i = l.length := by omega
            have h1' : ¬ (l.length : Int) < (l.length : Int) := by omega
            rw [List.take_of_length_le (by rw [List.length_map]; exact Nat.le_refl _)]
            obtain ⟨dm, HDM⟩ : ∃ dm : Int, Hid (deepest (l.map (·.1)) = dm) := ⟨_, hid rfl⟩
            obtain ⟨up, HUP⟩ : ∃ up : Nat, Hid ((chain f 0 e.id).length = up) := ⟨_, hid rfl⟩
            have hup : up ≤ 100000 := by
              have h1 := chain_len f 0 e.id
              have h2 := hf.out.len
              rw [HUP.out] at h1
              omega
            have T5 := hid (h.out.below HG.out)
            have KL := hid (kidLevel_any T5 hf e.id (hf.out.wf _ hem))
            have hr := HR3.out
            rw [HDM.out] at hdp hr ⊢
            rw [HUP.out] at KL hr
            obtain ⟨hd1, hd2⟩ := hdp
            have d0'' : wr.cell? ⟨s.g, 0, none⟩ = some (.int .i64 e.id) := (T5.out.graph.nodes _ hm.out).cells.1
            clear d0' HC HR3 h1 HFE
            go_wp2_with fail
            refine KL.out.mono ?_
            rintro q w6 ⟨rfl, hb6⟩
            have HB6 := hid (HG.out.trans (hb6.mono HG.out.size))
            have T6 := hid (T5.out.below hb6)
            clear KL hb6 d0''
            by_cases b1 : 40 ≤ (up : Int) + dm
            · rw [if_pos b1] at hr
              subst hr
              clear T6
              go_wp2
              go_ret
              exact ⟨rfl, HB6.out⟩
            · rw [if_neg b1] at hr
              have b1' : (up : Int) + dm < 40 := by omega
              obtain ⟨c0, _, c2⟩ := T6.out.cells
              have hlen := N.len T6.out.graph.map 3
              rw [show (idg L).length = L.length by simp [idg]] at hlen
              obtain ⟨n, HN⟩ : ∃ n : Nat, Hid (L.length = n) := ⟨_, hid rfl⟩
              rw [HN.out] at hlen hr hLn
              by_cases b2 : 1000 < n + l.length
              · rw [if_pos (Or.inl b2)] at hr
                subst hr
                have b2' : (1000 : Int) < (n : Int) + (l.length : Int) := by omega
                go_wp2
                go_ret
                exact ⟨rfl, HB6.out⟩
              · have b2' : ¬ (1000 : Int) < (n : Int) + (l.length : Int) := by omega
                have SP := hid (spares_any T6 l.length (by omega) hnx2)
                go_wp2_with fail
                refine SP.out.mono ?_
                rintro q w7 ⟨rfl, hw7⟩
                rw [hw7]
                clear hw7
                by_cases b3 : 2147483647 < nx + (l.length : Int)
                · rw [if_pos (Or.inr b3)] at hr
                  subst hr
                  rw [show decide ((l.length : Int) ≤ 2147483647 - nx) = false by simp; omega]
                  clear SP
                  go_wp2
                  go_ret
                  exact ⟨rfl, HB6.out⟩
                · rw [if_neg (fun q => q.elim b2 b3)] at hr
                  subst hr
                  rw [show decide ((l.length : Int) ≤ 2147483647 - nx) = true by simp; omega]
                  clear SP
                  go_wp2
                  go_ret
                  exact ⟨rfl, HB6.out⟩
      · have a3' : (fe != 0) = true := by simpa using a3
        have hr := HRR.out
        rw [if_pos a3] at hr
        subst hr
        clear HRR HFE a3
        go_wp2
        go_ret
        exact ⟨rfl, HB1.out⟩
end
end N
end Go.Proofs.YtidccohjehegjaaDoor
