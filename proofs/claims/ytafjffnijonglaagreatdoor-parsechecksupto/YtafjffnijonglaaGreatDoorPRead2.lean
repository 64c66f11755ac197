/- The walks of a draft's add, whole and take. -/
import Derived.Test.YtafjffnijonglaaGreatDoorPRead
import Derived.Test.YtafjffnijonglaaGreatDoorLFacts4
namespace Go.Proofs.YtafjffnijonglaaGreatDoor
open Go.RowKit Go.Shelf
def itmV (x : P.Itm) (v : Value) : Value := .agg #[.int .i64 x.level, .int .i64 x.kind, .string x.name, .string x.text, v]
theorem infoI : (Tryz.prog.info? 34).map (fun i => (i.zero, i.size, i.bytes)) = some (some (.agg #[.int .i64 0, .int .i64 0, .string ⟨#[]⟩, .string ⟨#[]⟩, .slice none 0 0]), 5, 72) := by kernel_rfl
theorem one_fiveI (x : IV) (h : x.2.oneCell' = true) : ∀ u ∈ encI1 x, u.oneCell' = true := by
  intro u hu
  simp only [encI1, List.mem_cons, List.not_mem_nil, or_false] at hu
  rcases hu with rfl | rfl | rfl | rfl | rfl <;> first | rfl | exact h
section
variable {W0 : World} {b : Nat} {VI VN : Value} {its : List IV} {op : List ByteArray} {w : World}
/-- What an append to the items leaves as it was. -/
theorem DR.grow (h : DR W0 b VI VN its op w) {w' : World} (hg : w.grownBy w' VI.ownBlock) : w'.heap[b]? = some (.cells #[VI, VN] 38 (0, 0)) ∧ NamesAt W0.heap.size VN op w' ∧ Below W0.heap.size W0 w' := by
  have own : ∀ (c : Nat) (cs : Array Value) (e : TypeId) (fz : Nat × Nat), w.heap[c]? = some (.cells cs e fz) → e ≠ 34 → some c ≠ VI.ownBlock := by
    intro c cs e fz hc ne q
    rcases h.itm.1.2 with ⟨rfl, _⟩ | ⟨g, cap, cur, rfl, _, hg', _⟩
    · cases q
    · have : c = g := by simpa [Value.ownBlock] using q
      subst this
      rw [hc] at hg'
      simp only [Option.some.injEq, Obj.cells.injEq] at hg'
      exact ne hg'.2.1
  refine ⟨by rw [hg.block b h.lt (own b _ _ _ h.obj (by decide))]; exact h.obj, ?_, h.bel.grown hg (Nat.le_of_lt (Nat.lt_of_le_of_lt h.low h.lt)) fun k hk => (World.ownsRow.lt h.itm.1 k hk).1⟩
  rcases h.nam with h' | ⟨g, cap, cur, h1, h2, h3, h4⟩
  · exact Or.inl h'
  · exact Or.inr ⟨g, cap, cur, h1, h2, by rw [hg.block g (lt_of_block h3) (own g _ _ _ h3 (by decide))]; exact h3, h4⟩
theorem DR.form (h : DR W0 b VI VN its op w) : ∃ ao cap, VI = .slice ao its.length cap := by
  rcases h.itm.1.2 with ⟨h, h'⟩ | ⟨_, _, _, h, _⟩
  · exact ⟨none, 0, by rw [h, h']⟩
  · exact ⟨_, _, h⟩
theorem DR.formN (h : DR W0 b VI VN its op w) : ∃ ao cap, VN = .slice ao op.length cap := by
  obtain ⟨ao, cap, e, _⟩ := h.nam.form
  exact ⟨ao, cap, e⟩
theorem DR.turn {w1 : World} (h : DR W0 b VI VN its op w1) (g : w.heap[b]? = some (.cells #[VI, VN] 38 (0, 0)) ∧ NamesAt W0.heap.size VN op w ∧ Below W0.heap.size W0 w) {VI' : Value} {its' : List IV} (hn : ItmRow W0.heap.size VI' its' w) : DR W0 b VI' VN its' op (w.setCell ⟨b, 0, none⟩ VI') :=
  ⟨h.tab, h.low, g.2.2.setCell (p := ⟨b, 0, none⟩) h.low _, by rw [heap_setCell_same w b 0 _ _ VI' g.1]; rfl,
    ⟨row_set hn.1 g.1 (by decide), fun x hx => row_set (hn.2 x hx) g.1 (by decide)⟩, names_set g.2.1 g.1 (by decide)⟩
set_option maxRecDepth 100000 in
set_option maxHeartbeats 1000000 in
theorem add_bad (R : Hid (DR W0 b VI VN its op w)) (x : P.Itm) (v : Value) (hv : ∃ ao nn cp, v = .slice ao nn cp) (hl : its.length ≤ 1048576) (e0 : Int) (HE : Hid (P.addE its.length x = e0)) (he : e0 ≠ 0) :
    Calls Tryz.prog 24 #[.pointer (some ⟨b, 0, none⟩), itmV x v] w fun e w' => e = .returned (.int .i64 e0) ∧ Below w.heap.size w w' := by
  obtain ⟨ao, nn, cp, rfl⟩ := hv
  obtain ⟨aoI, capI, rfl⟩ := R.out.form
  obtain ⟨lv, kd, nm, tx, ats⟩ := x
  have c0 := R.out.cell 0
  simp only [List.getElem?_toArray, List.getElem?_cons_zero] at c0
  have R1 : Hid (Below w.heap.size w (w.alloc (.cells #[.int .i64 lv, .int .i64 kd, .string nm, .string tx, .slice ao nn cp] 34))) := hid ((Below.refl _ _).alloc (Nat.le_refl _) _)
  have hb := R.out.lt
  have c1 : (w.alloc (.cells #[.int .i64 lv, .int .i64 kd, .string nm, .string tx, .slice ao nn cp] 34)).cell? ⟨b, 0, none⟩ = some (.slice aoI its.length capI) := by rw [World.cell?_alloc_past _ _ _ hb]; exact c0
  clear R c0 hb
  have HE2 := HE.out
  unfold P.addE at HE2
  dsimp only at HE2
  clear HE
  unfold itmV
  generalize its.length = m at *
  by_cases h0 : lv = 0
  · subst h0
    by_cases hm : m = 0
    · subst hm
      by_cases hk : kd = 2
      · subst hk
        obtain rfl : e0 = 40 := by simpa using HE2.symm
        clear HE2 he
        go_enter Tryz.func24, Tryz.ntmps24
        go_wp2
        go_ret
        exact ⟨rfl, R1.out⟩
      · exact absurd (by simpa [hk] using HE2.symm) he
    · have hm' : (0 : Int) < (m : Int) := by omega
      obtain rfl : e0 = 40 := by simpa [hm] using HE2.symm
      clear HE2 he
      go_enter Tryz.func24, Tryz.ntmps24
      go_wp2
      go_ret
      exact ⟨rfl, R1.out⟩
  · have h0' : (lv == 0) = false := beq_eq_false_iff_ne.2 h0
    rw [if_neg (by simp [h0])] at HE2
    by_cases h4 : 40 ≤ lv
    · obtain rfl : e0 = 42 := by simpa [h4] using HE2.symm
      clear HE2 he h0
      go_enter Tryz.func24, Tryz.ntmps24
      go_wp2
      go_ret
      exact ⟨rfl, R1.out⟩
    · rw [if_neg h4] at HE2
      by_cases h5 : 1000 ≤ m
      · have h5' : (1000 : Int) ≤ (m : Int) := by omega
        obtain rfl : e0 = 43 := by simpa [h5] using HE2.symm
        clear HE2 he h0
        go_enter Tryz.func24, Tryz.ntmps24
        go_wp2
        go_ret
        exact ⟨rfl, R1.out⟩
      · exact absurd (by simpa [h5] using HE2.symm) he
set_option maxRecDepth 100000 in
set_option maxHeartbeats 4000000 in
theorem add_ok (R : Hid (DR W0 b VI VN its op w)) (x : P.Itm) (v : Value) (hv : ∃ ao nn cp, v = .slice ao nn cp) (HA : Hid (w.ownsRow W0.heap.size 67 2 v x.attrs.length (encL x.attrs))) (hl : its.length ≤ 1048576) (HE : Hid (P.addE its.length x = 0)) :
    Calls Tryz.prog 24 #[.pointer (some ⟨b, 0, none⟩), itmV x v] w fun e w' => e = .returned (.int .i64 0) ∧ ∃ VI', DR W0 b VI' VN (its ++ [(x, v)]) op w' := by
  obtain ⟨i0, hi0, hz0, hz1, hz2⟩ := info_parts infoI
  have I0 := hid hi0
  have I1 := hid hz0
  have I2 := hid hz1
  have I3 := hid hz2
  clear hi0 hz0 hz1 hz2
  obtain ⟨ao, nn, cp, rfl⟩ := hv
  obtain ⟨aoI, capI, rfl⟩ := R.out.form
  obtain ⟨lv, kd, nm, tx, ats⟩ := x
  have c0 := R.out.cell 0
  simp only [List.getElem?_toArray, List.getElem?_cons_zero] at c0
  have R1 := hid (R.out.new (.cells #[.int .i64 lv, .int .i64 kd, .string nm, .string tx, .slice ao nn cp] 34))
  have A1 : Hid ((w.alloc (.cells #[.int .i64 lv, .int .i64 kd, .string nm, .string tx, .slice ao nn cp] 34)).ownsRow W0.heap.size 67 2 (.slice ao nn cp) ats.length (encL ats)) := hid (World.ownsRow.alloc HA.out _)
  have hb := R.out.lt
  have hbs : w.heap.size < (w.alloc (.cells #[.int .i64 lv, .int .i64 kd, .string nm, .string tx, .slice ao nn cp] 34)).heap.size := by simp
  have nw := heap_alloc_new w (.cells #[.int .i64 lv, .int .i64 kd, .string nm, .string tx, .slice ao nn cp] 34)
  have k0 : (w.alloc (.cells #[.int .i64 lv, .int .i64 kd, .string nm, .string tx, .slice ao nn cp] 34)).cell? ⟨w.heap.size, 0, none⟩ = some (.int .i64 lv) := by rw [cell_of_row _ w.heap.size 0 _ _ _ nw]; rfl
  have k1 : (w.alloc (.cells #[.int .i64 lv, .int .i64 kd, .string nm, .string tx, .slice ao nn cp] 34)).cell? ⟨w.heap.size, 1, none⟩ = some (.int .i64 kd) := by rw [cell_of_row _ w.heap.size 1 _ _ _ nw]; rfl
  have k2 : (w.alloc (.cells #[.int .i64 lv, .int .i64 kd, .string nm, .string tx, .slice ao nn cp] 34)).cell? ⟨w.heap.size, 2, none⟩ = some (.string nm) := by rw [cell_of_row _ w.heap.size 2 _ _ _ nw]; rfl
  have k3 : (w.alloc (.cells #[.int .i64 lv, .int .i64 kd, .string nm, .string tx, .slice ao nn cp] 34)).cell? ⟨w.heap.size, 3, none⟩ = some (.string tx) := by rw [cell_of_row _ w.heap.size 3 _ _ _ nw]; rfl
  have k4 : (w.alloc (.cells #[.int .i64 lv, .int .i64 kd, .string nm, .string tx, .slice ao nn cp] 34)).cell? ⟨w.heap.size, 4, none⟩ = some (.slice ao nn cp) := by rw [cell_of_row _ w.heap.size 4 _ _ _ nw]; rfl
  have HE2 := HE.out
  unfold P.addE at HE2
  dsimp only at HE2
  have hlt : lv < 40 ∧ its.length < 1000 ∧ (lv = 0 → its.length = 0 ∧ (kd == 2) = false) := by
    split at HE2
    · simp at HE2
    · rename_i h1
      split at HE2
      · simp at HE2
      · split at HE2
        · simp at HE2
        · refine ⟨by omega, by omega, fun q => ⟨?_, beq_eq_false_iff_ne.2 fun q2 => h1 ⟨q, Or.inr q2⟩⟩⟩
          by_cases q2 : its.length = 0
          · exact q2
          · exact absurd ⟨q, Or.inl q2⟩ h1
  clear HE HE2 HA R c0 nw
  unfold itmV
  obtain ⟨l1, l2, l3⟩ := hlt
  have c1 : (w.alloc (.cells #[.int .i64 lv, .int .i64 kd, .string nm, .string tx, .slice ao nn cp] 34)).cell? ⟨b, 0, none⟩ = some (.slice aoI its.length capI) := by
    have c1 := R1.out.cell 0
    simpa only [List.getElem?_toArray, List.getElem?_cons_zero] using c1
  have l2' : ¬ (1000 : Int) ≤ (its.length : Int) := by omega
  have l1' : ¬ (40 : Int) ≤ lv := by omega
  go_enter Tryz.func24, Tryz.ntmps24
  by_cases h0 : lv = 0
  · subst h0
    obtain ⟨m0, kd2⟩ := l3 rfl
    have m1 : its = [] := List.length_eq_zero_iff.1 m0
    subst m1
    clear m0 l3 l2 l2'
    simp only [List.length_nil] at R1 c1
    go_wp2
    generalize w.alloc (.cells #[.int .i64 0, .int .i64 kd, .string nm, .string tx, .slice ao nn cp] 34) = W1 at *
    generalize w.heap.size = B at *
    have HO : Hid ((W1.alloc (Obj.cells #[.int .i64 0, .int .i64 kd, .string nm, .string tx, .slice ao nn cp] 34)).drew.ownsRow W0.heap.size 34 5 (.slice aoI 0 capI) 0 (encI [])) := hid (R1.out.new _).itm.1
    have HN : Hid (∀ q u, [Value.int .i64 0, .int .i64 kd, .string nm, .string tx, .slice ao nn cp][q]? = some u → (W1.alloc (Obj.cells #[.int .i64 0, .int .i64 kd, .string nm, .string tx, .slice ao nn cp] 34)).drew.cell? ((⟨W1.heap.size, 0, none⟩ : Addr).add q) = some u) :=
      hid (World.news_of_block (w := (W1.alloc (Obj.cells #[.int .i64 0, .int .i64 kd, .string nm, .string tx, .slice ao nn cp] 34)).drew) (cs := #[.int .i64 0, .int .i64 kd, .string nm, .string tx, .slice ao nn cp]) (heap_alloc_new W1 _))
    have a0 : (W1.alloc (Obj.cells #[.int .i64 0, .int .i64 kd, .string nm, .string tx, .slice ao nn cp] 34)).cell? ⟨b, 0, none⟩ = some (.slice aoI 0 capI) := by rw [World.cell?_alloc_past _ _ _ R1.out.lt]; exact c1
    have q0 : (W1.alloc (Obj.cells #[.int .i64 0, .int .i64 kd, .string nm, .string tx, .slice ao nn cp] 34)).cell? ⟨B, 0, none⟩ = some (.int .i64 0) := by rw [World.cell?_alloc_past _ _ _ hbs]; exact k0
    have q1 : (W1.alloc (Obj.cells #[.int .i64 0, .int .i64 kd, .string nm, .string tx, .slice ao nn cp] 34)).cell? ⟨B, 1, none⟩ = some (.int .i64 kd) := by rw [World.cell?_alloc_past _ _ _ hbs]; exact k1
    have q2 : (W1.alloc (Obj.cells #[.int .i64 0, .int .i64 kd, .string nm, .string tx, .slice ao nn cp] 34)).cell? ⟨B, 2, none⟩ = some (.string nm) := by rw [World.cell?_alloc_past _ _ _ hbs]; exact k2
    have q3 : (W1.alloc (Obj.cells #[.int .i64 0, .int .i64 kd, .string nm, .string tx, .slice ao nn cp] 34)).cell? ⟨B, 3, none⟩ = some (.string tx) := by rw [World.cell?_alloc_past _ _ _ hbs]; exact k3
    have q4 : (W1.alloc (Obj.cells #[.int .i64 0, .int .i64 kd, .string nm, .string tx, .slice ao nn cp] 34)).cell? ⟨B, 4, none⟩ = some (.slice ao nn cp) := by rw [World.cell?_alloc_past _ _ _ hbs]; exact k4
    have hm : Hid (0 + 1 ≤ maxLen ∧ (0 + 1) * 72 ≤ 140737488355328 ∧ W0.heap.size ≤ W1.heap.size + 1) := hid ⟨by unfold maxLen; omega, by omega, by have := R1.out.bel.size; omega⟩
    go_region_law (
      refine step_append_lies _ rfl (.tmp 37) (.tmp 39) 23 rfl W0.heap.size 34 i0 (.agg #[.int .i64 0, .int .i64 0, .string ⟨#[]⟩, .string ⟨#[]⟩, .slice none 0 0]) 5 72 Tryz.underlying23 I0.out I1.out I2.out I3.out rfl (by decide) _ 0 (encI []) rfl HO.out ⟨W1.heap.size, 0, none⟩ 1 1 [.int .i64 0, .int .i64 kd, .string nm, .string tx, .slice ao nn cp] rfl rfl HN.out (one_fiveI (⟨0, kd, nm, tx, ats⟩, .slice ao nn cp) rfl) (by decide) hm.out.1 hm.out.2.1 (by simpa using hm.out.2.2) (W1.heap.size + 1) (by simp) ?_
      intro g' cap' w4 hown hgrow hgl _
      have G4 := hid (((R1.out.new (.cells #[.int .i64 0, .int .i64 kd, .string nm, .string tx, .slice ao nn cp] 34)).drewN 1).grow hgrow)
      have T4 : Hid (ItmRow W0.heap.size (.slice (some ⟨g', 0, none⟩) (0 + 1) cap') ([] ++ [(⟨0, kd, nm, tx, ats⟩, .slice ao nn cp)]) w4) := hid (by
        refine ⟨by rw [encI_snoc, List.length_append]; exact hown, fun y hy => ?_⟩
        have keep : ∀ {base : Nat} {y : Value} {q : Nat} {xs : List Value}, W1.ownsRow base 67 2 y q xs → w4.ownsRow base 67 2 y q xs := fun {base y q xs} h =>
          World.ownsRow.kept (w := (W1.alloc (Obj.cells #[.int .i64 0, .int .i64 kd, .string nm, .string tx, .slice ao nn cp] 34)).drew) (World.ownsRow.alloc h _) hgrow (rows_two h R1.out.itm.1 (by decide))
        rcases List.mem_append.1 hy with hy | hy
        · exact keep (R1.out.itm.2 y hy)
        · simp only [List.mem_singleton] at hy
          subst hy
          exact keep A1.out)
      have e0 : w4.cell? ⟨b, 0, none⟩ = some (.slice aoI 0 capI) := cell_of_row w4 b 0 _ _ _ G4.out.1
      have h0 : w4.frozen? ⟨b, 0, none⟩ = false := frozen_of_row w4 b 0 _ _ G4.out.1
      clear hown hgrow hgl)
    all_goals
      go_wp2
      go_ret
      exact ⟨rfl, _, DR.turn R1.out G4.out T4.out⟩
  · have h0' : (lv == 0) = false := beq_eq_false_iff_ne.2 h0
    go_wp2
    generalize w.alloc (.cells #[.int .i64 lv, .int .i64 kd, .string nm, .string tx, .slice ao nn cp] 34) = W1 at *
    generalize w.heap.size = B at *
    have HO : Hid ((W1.alloc (Obj.cells #[.int .i64 lv, .int .i64 kd, .string nm, .string tx, .slice ao nn cp] 34)).drew.ownsRow W0.heap.size 34 5 (.slice aoI its.length capI) its.length (encI its)) := hid (R1.out.new _).itm.1
    have HN : Hid (∀ q u, [Value.int .i64 lv, .int .i64 kd, .string nm, .string tx, .slice ao nn cp][q]? = some u → (W1.alloc (Obj.cells #[.int .i64 lv, .int .i64 kd, .string nm, .string tx, .slice ao nn cp] 34)).drew.cell? ((⟨W1.heap.size, 0, none⟩ : Addr).add q) = some u) :=
      hid (World.news_of_block (w := (W1.alloc (Obj.cells #[.int .i64 lv, .int .i64 kd, .string nm, .string tx, .slice ao nn cp] 34)).drew) (cs := #[.int .i64 lv, .int .i64 kd, .string nm, .string tx, .slice ao nn cp]) (heap_alloc_new W1 _))
    have a0 : (W1.alloc (Obj.cells #[.int .i64 lv, .int .i64 kd, .string nm, .string tx, .slice ao nn cp] 34)).cell? ⟨b, 0, none⟩ = some (.slice aoI its.length capI) := by rw [World.cell?_alloc_past _ _ _ R1.out.lt]; exact c1
    have q0 : (W1.alloc (Obj.cells #[.int .i64 lv, .int .i64 kd, .string nm, .string tx, .slice ao nn cp] 34)).cell? ⟨B, 0, none⟩ = some (.int .i64 lv) := by rw [World.cell?_alloc_past _ _ _ hbs]; exact k0
    have q1 : (W1.alloc (Obj.cells #[.int .i64 lv, .int .i64 kd, .string nm, .string tx, .slice ao nn cp] 34)).cell? ⟨B, 1, none⟩ = some (.int .i64 kd) := by rw [World.cell?_alloc_past _ _ _ hbs]; exact k1
    have q2 : (W1.alloc (Obj.cells #[.int .i64 lv, .int .i64 kd, .string nm, .string tx, .slice ao nn cp] 34)).cell? ⟨B, 2, none⟩ = some (.string nm) := by rw [World.cell?_alloc_past _ _ _ hbs]; exact k2
    have q3 : (W1.alloc (Obj.cells #[.int .i64 lv, .int .i64 kd, .string nm, .string tx, .slice ao nn cp] 34)).cell? ⟨B, 3, none⟩ = some (.string tx) := by rw [World.cell?_alloc_past _ _ _ hbs]; exact k3
    have q4 : (W1.alloc (Obj.cells #[.int .i64 lv, .int .i64 kd, .string nm, .string tx, .slice ao nn cp] 34)).cell? ⟨B, 4, none⟩ = some (.slice ao nn cp) := by rw [World.cell?_alloc_past _ _ _ hbs]; exact k4
    have hm : Hid (its.length + 1 ≤ maxLen ∧ (its.length + 1) * 72 ≤ 140737488355328 ∧ W0.heap.size ≤ W1.heap.size + 1) := hid ⟨by unfold maxLen; omega, by omega, by have := R1.out.bel.size; omega⟩
    go_region_law (
      refine step_append_lies _ rfl (.tmp 37) (.tmp 39) 23 rfl W0.heap.size 34 i0 (.agg #[.int .i64 0, .int .i64 0, .string ⟨#[]⟩, .string ⟨#[]⟩, .slice none 0 0]) 5 72 Tryz.underlying23 I0.out I1.out I2.out I3.out rfl (by decide) _ its.length (encI its) rfl HO.out ⟨W1.heap.size, 0, none⟩ 1 1 [.int .i64 lv, .int .i64 kd, .string nm, .string tx, .slice ao nn cp] rfl rfl HN.out (one_fiveI (⟨lv, kd, nm, tx, ats⟩, .slice ao nn cp) rfl) (by decide) hm.out.1 hm.out.2.1 (by simpa using hm.out.2.2) (W1.heap.size + 1) (by simp) ?_
      intro g' cap' w4 hown hgrow hgl _
      have G4 := hid (((R1.out.new (.cells #[.int .i64 lv, .int .i64 kd, .string nm, .string tx, .slice ao nn cp] 34)).drewN 1).grow hgrow)
      have T4 : Hid (ItmRow W0.heap.size (.slice (some ⟨g', 0, none⟩) (its.length + 1) cap') (its ++ [(⟨lv, kd, nm, tx, ats⟩, .slice ao nn cp)]) w4) := hid (by
        refine ⟨by rw [encI_snoc, List.length_append]; exact hown, fun y hy => ?_⟩
        have keep : ∀ {base : Nat} {y : Value} {q : Nat} {xs : List Value}, W1.ownsRow base 67 2 y q xs → w4.ownsRow base 67 2 y q xs := fun {base y q xs} h =>
          World.ownsRow.kept (w := (W1.alloc (Obj.cells #[.int .i64 lv, .int .i64 kd, .string nm, .string tx, .slice ao nn cp] 34)).drew) (World.ownsRow.alloc h _) hgrow (rows_two h R1.out.itm.1 (by decide))
        rcases List.mem_append.1 hy with hy | hy
        · exact keep (R1.out.itm.2 y hy)
        · simp only [List.mem_singleton] at hy
          subst hy
          exact keep A1.out)
      have e0 : w4.cell? ⟨b, 0, none⟩ = some (.slice aoI its.length capI) := cell_of_row w4 b 0 _ _ _ G4.out.1
      have h0 : w4.frozen? ⟨b, 0, none⟩ = false := frozen_of_row w4 b 0 _ _ G4.out.1
      clear hown hgrow hgl)
    all_goals
      go_wp2
      go_ret
      exact ⟨rfl, _, DR.turn R1.out G4.out T4.out⟩
end
end Go.Proofs.YtafjffnijonglaaGreatDoor
