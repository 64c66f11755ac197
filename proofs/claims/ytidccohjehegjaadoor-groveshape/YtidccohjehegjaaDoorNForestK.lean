/- The walks of grove's misshapen and checkForest. -/
import Derived.Test.YtidccohjehegjaaDoorK10
import Derived.Test.YtidccohjehegjaaDoorK2
namespace Go.Proofs.YtidccohjehegjaaDoor
open Go.RowKit Go.Shelf
namespace N
open T
def rootA : P.Itm := ⟨0, 1, ⟨#[97]⟩, ⟨#[]⟩, []⟩
theorem root_fine : P.itemE none 0 rootA = 0 := by kernel_rfl
theorem two_check (x : P.Itm) : P.checkP [rootA, { x with level := 1 }] = (if P.partsE x = 0 then 0 else 1, P.partsE x) := by
  have h1 : P.partsE { x with level := 1 } = P.partsE x := rfl
  have h2 : P.itemE (some rootA) 1 { x with level := 1 } = P.partsE x := by
    unfold P.itemE P.placeE P.standsB rootA
    simp [h1]
  unfold P.checkP
  rw [if_neg (by simp), P.checkF, if_neg (by simp [root_fine]), P.checkF, h2]
  by_cases h : P.partsE x = 0
  · rw [if_neg (by simp [h]), if_pos h, h]
    rfl
  · rw [if_pos h, if_neg h]
    rfl
section
variable {w : World}
set_option maxRecDepth 100000 in
set_option maxHeartbeats 2000000 in
theorem gmis_any (x : P.Itm) (v : Value) (I : Hid (AttrsIn v x.attrs w)) (F : Hid (FitC x)) (ht : Hid (Tab w)) : Calls Tryd.prog 72 #[itmV x v] w fun e w' => e = .returned (.int .i64 (P.partsE x)) ∧ Below w.heap.size w w' := by
  obtain ⟨ao, cap, rfl, hl, hcc⟩ := I.out
  clear hcc
  have I2 : Hid (ItemsIn (.slice (some ⟨w.heap.size + 1, 0, none⟩) 2 2) [(rootA, .slice none 0 0), ({ x with level := 1 }, .slice ao x.attrs.length cap)] ((w.alloc (.cells #[.int .i64 1, .int .i64 x.kind, .string x.name, .string x.text, .slice ao x.attrs.length cap] 49)).alloc (.cells #[.int .i64 0, .int .i64 1, .string ⟨#[97]⟩, .string ⟨#[]⟩, .slice none 0 0, .int .i64 1, .int .i64 x.kind, .string x.name, .string x.text, .slice ao x.attrs.length cap] 49))) := hid (by
    have hb := heap_alloc_new (w.alloc (.cells #[.int .i64 1, .int .i64 x.kind, .string x.name, .string x.text, .slice ao x.attrs.length cap] 49)) (.cells #[.int .i64 0, .int .i64 1, .string ⟨#[97]⟩, .string ⟨#[]⟩, .slice none 0 0, .int .i64 1, .int .i64 x.kind, .string x.name, .string x.text, .slice ao x.attrs.length cap] 49)
    rw [World.size_alloc] at hb
    refine ⟨⟨some ⟨w.heap.size + 1, 0, none⟩, 2, rfl, by simp, fun _ => ⟨w.heap.size + 1, 0, rfl, by simp, fun j hj => ?_⟩⟩, fun y hy => ?_⟩
    · have hj2 : j < 2 := hj
      rcases (show j = 0 ∨ j = 1 by omega) with rfl | rfl
      · refine ⟨?_, ?_, ?_, ?_, ?_⟩ <;> rw [Lib.cell_of_heap hb] <;> rfl
      · refine ⟨?_, ?_, ?_, ?_, ?_⟩ <;> rw [Lib.cell_of_heap hb] <;> rfl
    · simp only [List.mem_cons, List.not_mem_nil, or_false] at hy
      rcases hy with rfl | rfl
      · exact ⟨none, 0, rfl, by decide, fun h => absurd rfl h⟩
      · exact I.out.below (((Below.refl _ w).alloc (Nat.le_refl _) _).alloc (by simp) _))
  have F2 : Hid (∀ y ∈ [(rootA, Value.slice none 0 0), ({ x with level := 1 }, Value.slice ao x.attrs.length cap)], FitC y.1) := hid (fun y hy => by
    simp only [List.mem_cons, List.not_mem_nil, or_false] at hy
    rcases hy with rfl | rfl
    · exact ⟨by decide, by decide, by decide, by decide, fun a ha => by cases ha⟩
    · exact ⟨⟨by show (-9223372036854775808 : Int) ≤ 1; decide, by show (1 : Int) ≤ 9223372036854775807; decide⟩, F.out.2⟩)
  have HB := hid (((Below.refl w.heap.size w).alloc (Nat.le_refl _) (.cells #[.int .i64 1, .int .i64 x.kind, .string x.name, .string x.text, .slice ao x.attrs.length cap] 49)).alloc (by simp) (.cells #[.int .i64 0, .int .i64 1, .string ⟨#[97]⟩, .string ⟨#[]⟩, .slice none 0 0, .int .i64 1, .int .i64 x.kind, .string x.name, .string x.text, .slice ao x.attrs.length cap] 49))
  have CH := hid (check_any I2 F2 (ht.out.below HB.out) _ _ (hid (two_check x)))
  obtain ⟨k, HK⟩ : ∃ k : Int, Hid ((if P.partsE x = 0 then (0 : Int) else 1) = k) := ⟨_, hid rfl⟩
  obtain ⟨r, HR⟩ : ∃ r : Int, Hid (P.partsE x = r) := ⟨_, hid rfl⟩
  rw [HK.out, HR.out] at CH
  rw [HR.out]
  clear I2 F2
  unfold itmV
  go_enter Tryd.func72, Tryd.ntmps72
  go_wp2_with fail
  refine CH.out.mono ?_
  rintro e w1 ⟨rfl, hb⟩
  have HB2 := hid hb
  clear hb CH
  go_wp2
  go_ret
  exact ⟨rfl, HB.out.trans (HB2.out.mono HB.out.size)⟩
/-- The items from one on, behind those ahead. -/
def lastI (l : List P.Itm) (i : Nat) : Option P.Itm := if i = 0 then none else l[i - 1]?
theorem forest_step (l : List P.Itm) (i : Nat) (h : i < l.length) (prev : Option P.Itm) : forestF prev (l.drop i) = if l[i].level < 0 ∨ topF prev < l[i].level then 69 else if P.partsE l[i] ≠ 0 then P.partsE l[i] else forestF (some l[i]) (l.drop (i + 1)) := by
  rw [List.drop_eq_getElem_cons h, forestF]
theorem kind_of {x : P.Itm} (h : P.partsE x = 0) : x.kind = 1 ∨ x.kind = 2 := by
  by_cases h2 : x.kind = 2
  · exact Or.inr h2
  · by_cases h1 : x.kind = 1
    · exact Or.inl h1
    · unfold P.partsE at h
      rw [if_neg h2, if_pos (Or.inl h1)] at h
      cases h
set_option maxRecDepth 100000 in
set_option maxHeartbeats 4000000 in
theorem forest_any (V : Value) (l : List IV) (I : Hid (ItemsIn V l w)) (F : Hid (∀ x ∈ l, FitC x.1)) (ht : Hid (Tab w)) : Calls Tryd.prog 50 #[V] w fun e w' => e = .returned (.int .i64 (forestE (l.map (·.1)))) ∧ Below w.heap.size w w' := by
  obtain ⟨ao, cap, rfl, hl, hc⟩ := I.out.1
  have HC := hid hc
  clear hc
  obtain ⟨r, HR⟩ : ∃ r : Int, Hid (forestE (l.map (·.1)) = r) := ⟨_, hid rfl⟩
  rw [HR.out]
  by_cases h0 : l.length = 0
  · have hr := HR.out
    rw [List.length_eq_zero_iff.1 h0] at hr
    have hr2 : (40 : Int) = r := hr
    subst hr2
    rw [h0]
    clear hl
    go_enter Tryd.func50, Tryd.ntmps50
    go_wp2
    go_ret
    exact ⟨rfl, Below.refl _ _⟩
  · have HF : Hid (forestF none (l.map (·.1)) = r) := hid (by
      have hr := HR.out
      unfold forestE at hr
      rwa [if_neg (by intro q; rw [List.map_eq_nil_iff] at q; rw [q] at h0; exact h0 rfl)] at hr)
    have h0' : ((l.length : Int) == 0) = false := by simpa using h0
    clear HR
    go_enter Tryd.func50, Tryd.ntmps50
    go_wp2
    go_loopw [3, 12] (fun v3 v12 X => ∃ (i : Nat) (prev : Option P.Itm), v12 = .int .i64 (i : Int) ∧ i ≤ l.length ∧ v3 = .int .i64 (topF prev) ∧ Hid (forestF prev ((l.map (·.1)).drop i) = r ∧ (topF prev ≤ (i : Int)) ∧ Below w.heap.size w X)) (fun _ v12 _ => l.length - (intOf v12).toNat)
    case atStart => exact ⟨0, none, rfl, by omega, rfl, hid ⟨HF.out, by simp [topF], Below.refl _ _⟩⟩
    case round =>
      obtain ⟨i, prev, rfl, hi, rfl, HG⟩ := hrel
      by_cases h1 : i < l.length
      · have h1' : (i : Int) < (l.length : Int) := by omega
        obtain ⟨g, o, rfl, hg, hc⟩ := HC.out (by rintro rfl; simp at h1)
        obtain ⟨k0, k1, k2, k3, k4⟩ := hc i h1
        have hs := forest_step (l.map (·.1)) i (by rw [List.length_map]; exact h1) prev
        rw [HG.out.1, List.getElem_map] at hs
        have hF := F.out l[i] (List.getElem_mem h1)
        have hA := I.out.2 l[i] (List.getElem_mem h1)
        have HS := hid hs
        have HFi := hid hF
        have HA := hid (hA.below HG.out.2.2)
        have hB := HG.out.2.2
        have c0 := (hB.cell (p := ⟨g, o + i * 5, none⟩) hg).trans k0
        have c1 := (hB.cell (p := ⟨g, o + i * 5 + 1, none⟩) hg).trans k1
        have c2 := (hB.cell (p := ⟨g, o + i * 5 + 2, none⟩) hg).trans k2
        have c3 := (hB.cell (p := ⟨g, o + i * 5 + 3, none⟩) hg).trans k3
        have c4 := (hB.cell (p := ⟨g, o + i * 5 + 4, none⟩) hg).trans k4
        obtain ⟨oa, oc, hoa⟩ : ∃ oa oc, l[i].2 = .slice oa l[i].1.attrs.length oc := by
          obtain ⟨oa, oc, q, _⟩ := hA
          exact ⟨oa, oc, q⟩
        rw [hoa] at c4 HA
        generalize l[i].1 = x at *
        clear hc k0 k1 k2 k3 k4 hs hF hA hB hoa
        obtain ⟨d, HD⟩ : ∃ d : Int, Hid (topF prev = d) := ⟨_, hid rfl⟩
        rw [HD.out] at HS HG ⊢
        have c0' : wr.cell? ⟨g, o + i * 5, none⟩ = some (.int .i64 x.level) := c0
        by_cases q1 : x.level < 0
        · have hr := HS.out
          rw [if_pos (Or.inl q1)] at hr
          subst hr
          clear HS
          go_wp2
          go_ret
          exact ⟨rfl, HG.out.2.2.alloc HG.out.2.2.size _⟩
        · by_cases q2 : d < x.level
          · have hr := HS.out
            rw [if_pos (Or.inr q2)] at hr
            subst hr
            clear HS
            go_wp2
            go_ret
            exact ⟨rfl, HG.out.2.2.alloc HG.out.2.2.size _⟩
          · have hr := HS.out
            rw [if_neg (fun h => h.elim q1 q2)] at hr
            have HB1 := hid (HG.out.2.2.alloc HG.out.2.2.size (.cells #[.int .i64 x.level, .int .i64 x.kind, .string x.name, .string x.text, .slice oa x.attrs.length oc] 49))
            have HB0 := hid ((Below.refl wr.heap.size wr).alloc (Nat.le_refl _) (.cells #[.int .i64 x.level, .int .i64 x.kind, .string x.name, .string x.text, .slice oa x.attrs.length oc] 49))
            have hbk := heap_alloc_new wr (.cells #[.int .i64 x.level, .int .i64 x.kind, .string x.name, .string x.text, .slice oa x.attrs.length oc] 49)
            have HBK := hid hbk
            have MS := hid (gmis_any (w := wr.alloc (.cells #[.int .i64 x.level, .int .i64 x.kind, .string x.name, .string x.text, .slice oa x.attrs.length oc] 49)) x (.slice oa x.attrs.length oc) (hid (HA.out.below HB0.out)) HFi (hid (ht.out.below HB1.out)))
            obtain ⟨pe, HPE⟩ : ∃ pe : Int, Hid (P.partsE x = pe) := ⟨_, hid rfl⟩
            rw [HPE.out] at MS hr
            have HRR := hid hr
            clear hr HS hbk c0'
            go_wp2_with fail
            refine MS.out.mono ?_
            rintro e w3 ⟨rfl, hb3⟩
            have HB3 := hid (HB1.out.trans (hb3.mono HB1.out.size))
            have hs3 := hb3.size
            have c3' : w3.heap[wr.heap.size]? = some (.cells #[.int .i64 x.level, .int .i64 x.kind, .string x.name, .string x.text, .slice oa x.attrs.length oc] 49 (0, 0)) := (hb3.block wr.heap.size (by simp)).trans HBK.out
            have e0 : w3.cell? ⟨wr.heap.size, 0, none⟩ = some (.int .i64 x.level) := by rw [Lib.cell_of_heap c3']; rfl
            have e1 : w3.cell? ⟨wr.heap.size, 1, none⟩ = some (.int .i64 x.kind) := by rw [Lib.cell_of_heap c3']; rfl
            clear MS hb3 c0 c1 c2 c3 c4 c3' hs3
            by_cases q3 : pe = 0
            · subst q3
              have hr := HRR.out
              rw [if_neg (by simp)] at hr
              have HR2 := hid hr
              have hkind := kind_of HPE.out
              have hdi := HG.out.2.1
              rcases hkind with hk | hk
              · rw [hk] at e1
                have hte : topF (some x) = x.level + 1 := by unfold topF; simp [hk]
                clear hr
                go_wp2
                exact ⟨⟨i + 1, some x, by simp, by omega, by rw [hte], hid ⟨HR2.out.symm, by rw [hte]; omega, HB3.out⟩⟩, by simp [intOf]; omega⟩
              · rw [hk] at e1
                have hte : topF (some x) = x.level := by unfold topF; simp [hk]
                clear hr
                go_wp2
                exact ⟨⟨i + 1, some x, by simp, by omega, by rw [hte], hid ⟨HR2.out.symm, by rw [hte]; omega, HB3.out⟩⟩, by simp [intOf]; omega⟩
            · have q3' : (pe != 0) = true := by simpa using q3
              have hr := HRR.out
              rw [if_pos q3] at hr
              subst hr
              clear HRR q3
              go_wp2
              go_ret
              exact ⟨rfl, HB3.out⟩
      · obtain rfl : i = l.length := by omega
        have h1' : ¬ (l.length : Int) < (l.length : Int) := by omega
        have hr := HG.out.1
        rw [List.drop_eq_nil_of_le (by simp), forestF] at hr
        subst hr
        go_wp2
        go_ret
        exact ⟨rfl, HG.out.2.2⟩
end
end N
end Go.Proofs.YtidccohjehegjaaDoor
