/- The walks of the document's own one and Check of layer parse: which item is amiss first, and how, is told as the plain function says. -/
import Derived.Test.YtidccohjehegjaaDoorPRefCheckK
namespace Go.Proofs.YtidccohjehegjaaDoor
open Go.RowKit Go.Shelf Go.Sort
section
variable {w : World}
variable {V : Value} {l : List IV}
set_option maxRecDepth 100000 in
set_option maxHeartbeats 8000000 in
theorem rplace_any (I : Hid (ItemsIn V l w)) (F : Hid (∀ x ∈ l, FitU x.1)) (k : Nat) (hk : k < l.length) (hp : ∀ q (_ : q < l.length), k = q + 1 → (l[q].1.level < 40 ∧ -9223372036854775808 ≤ l[q].1.level) ∧ (l[q].1.kind = 1 ∨ l[q].1.kind = 2)) : Calls Tryd.prog 30 #[V, .int .i64 (k : Int)] w fun e w' => e = .returned (.int .i64 (P.itemE (prevO (l.map (·.1)) k) k l[k].1)) ∧ Below w.heap.size w w' := by
  obtain ⟨ao, cap, rfl, hl, hc⟩ := I.out.1
  obtain ⟨g, o, rfl, hg, hc⟩ := hc (by rintro rfl; simp at hk)
  obtain ⟨c0, c1, c2, c3, c4⟩ := hc k hk
  have hA := I.out.2 _ (List.getElem_mem hk)
  have HA := hid hA
  obtain ⟨aoA, capA, eA, -, -⟩ := hA
  rw [eA] at c4
  have HAT : Hid (AttrsIn (.slice aoA l[k].1.attrs.length capA) l[k].1.attrs w) := hid (eA ▸ HA.out)
  have HF := hid (F.out _ (List.getElem_mem hk))
  have hk' : (k : Int) < (l.length : Int) := by omega
  have HB1 : Hid (Below w.heap.size w (w.alloc (.cells #[.int .i64 l[k].1.level, .int .i64 l[k].1.kind, .string l[k].1.name, .string l[k].1.text, .slice aoA l[k].1.attrs.length capA] 49))) := hid ((Below.refl _ _).alloc (Nat.le_refl _) _)
  obtain ⟨r, HR⟩ : ∃ r, Hid (P.itemE (prevO (l.map (·.1)) k) k l[k].1 = r) := ⟨_, hid rfl⟩
  rw [HR.out]
  have HPC : Hid (∀ q (_ : q < l.length), k = q + 1 → (w.alloc (.cells #[.int .i64 l[k].1.level, .int .i64 l[k].1.kind, .string l[k].1.name, .string l[k].1.text, .slice aoA l[k].1.attrs.length capA] 49)).cell? ⟨g, o + q * 5, none⟩ = some (.int .i64 l[q].1.level) ∧ (w.alloc (.cells #[.int .i64 l[k].1.level, .int .i64 l[k].1.kind, .string l[k].1.name, .string l[k].1.text, .slice aoA l[k].1.attrs.length capA] 49)).cell? ⟨g, o + q * 5 + 1, none⟩ = some (.int .i64 l[q].1.kind)) := hid (fun q hq _ => by
    rw [World.cell?_alloc_past _ _ _ hg, World.cell?_alloc_past _ _ _ hg]
    exact ⟨(hc q hq).1, (hc q hq).2.1⟩)
  have HBK := hid (heap_alloc_new w (.cells #[.int .i64 l[k].1.level, .int .i64 l[k].1.kind, .string l[k].1.name, .string l[k].1.text, .slice aoA l[k].1.attrs.length capA] 49))
  have HLP : Hid (∀ q (hq : q < l.length), k = q + 1 → P.standsB (prevO (l.map (·.1)) k) l[k].1 = (decide (1 ≤ l[k].1.level) && decide (l[k].1.level ≤ l[q].1.level + (if l[q].1.kind = 1 then 1 else 0)))) := hid (fun q hq e => by
    subst e
    simp [prevO, hq, P.standsB])
  have HLZ : Hid (k = 0 → P.standsB (prevO (l.map (·.1)) k) l[k].1 = (decide (l[k].1.level = 0) && decide (l[k].1.kind = 1))) := hid (fun e => by
    subst e; rfl)
  clear HA eA I F hc
  generalize l[k].1 = x at *
  obtain ⟨lv, kd, nm, tx, ats⟩ := x
  dsimp only at *
  obtain ⟨hl1, hl2⟩ := HF.out.1
  dsimp only at hl1 hl2
  go_enter Tryd.func30, Tryd.ntmps30
  obtain ⟨st, HST⟩ : ∃ st, Hid (P.standsB (prevO (l.map (·.1)) k) ⟨lv, kd, nm, tx, ats⟩ = st) := ⟨_, hid rfl⟩
  have HIE : Hid ((if st = false then 69 else if 40 ≤ lv then 42 else if 1000 ≤ k then 43 else P.partsE ⟨lv, kd, nm, tx, ats⟩) = r) := hid (by
    rw [← HR.out]
    unfold P.itemE P.placeE
    rw [HST.out]
    cases st with
    | false => simp
    | true =>
      by_cases h1 : 40 ≤ lv
      · simp [h1]
      · by_cases h2 : 1000 ≤ k
        · simp [h1, h2]
        · simp [h1, h2])
  clear HR
  rcases Nat.eq_zero_or_pos k with hz | hpos
  · have HS := HLZ.out hz
    rw [HST.out] at HS
    subst hz
    clear HLP HLZ HPC hp HST
    simp only [Nat.zero_mul, Nat.add_zero] at c0 c1 c2 c3 c4
    rw [show ((0 : Nat) : Int) = 0 from rfl] at hk' ⊢
    by_cases h0 : lv = 0
    · subst h0
      by_cases h1 : kd = 1
      · subst h1
        obtain rfl : st = true := by rw [HS]; rfl
        have HIE2 : Hid (P.partsE ⟨0, 1, nm, tx, ats⟩ = r) := hid (by rw [← HIE.out]; simp)
        clear HS HIE
        go_wp2
        generalize w.alloc (.cells #[.int .i64 0, .int .i64 1, .string nm, .string tx, .slice aoA ats.length capA] 49) = W1 at *
        obtain ⟨Bk, hBk⟩ : ∃ Bk, Bk = w.heap.size := ⟨_, rfl⟩
        rw [← hBk] at HBK ⊢
        have c00 : W1.cell? ⟨Bk, 0, none⟩ = some (.int .i64 0) := by rw [cell_of_row _ Bk 0 _ _ _ HBK.out]; rfl
        have HBk := hid hBk
        clear hBk
        go_quiet (fail)
        have HB2 := hid (below_drewN HB1.out nq)
        have HK2 : Hid ((W1.drewN nq).heap[Bk]? = some (.cells #[.int .i64 0, .int .i64 1, .string nm, .string tx, .slice aoA ats.length capA] 49 (0, 0))) := hid HBK.out
        have HA2 := hid (HAT.out.below HB2.out)
        clear HB1 HBK HAT
        generalize W1.drewN nq = W2 at *
        have b0 : W2.cell? ⟨Bk, 0, none⟩ = some (.int .i64 0) := by rw [cell_of_row _ Bk 0 _ _ _ HK2.out]; rfl
        have b1 : W2.cell? ⟨Bk, 1, none⟩ = some (.int .i64 1) := by rw [cell_of_row _ Bk 1 _ _ _ HK2.out]; rfl
        have b2 : W2.cell? ⟨Bk, 2, none⟩ = some (.string nm) := by rw [cell_of_row _ Bk 2 _ _ _ HK2.out]; rfl
        have b3 : W2.cell? ⟨Bk, 3, none⟩ = some (.string tx) := by rw [cell_of_row _ Bk 3 _ _ _ HK2.out]; rfl
        have b4 : W2.cell? ⟨Bk, 4, none⟩ = some (.slice aoA ats.length capA) := by rw [cell_of_row _ Bk 4 _ _ _ HK2.out]; rfl
        go_wp2_with fail
        refine (rparts_any ⟨0, 1, nm, tx, ats⟩ (.slice aoA ats.length capA) HA2 HF).mono ?_
        rintro e w3 ⟨rfl, hb3⟩
        have HB3 := hid (HB2.out.trans (hb3.mono HB2.out.size))
        clear hb3
        rw [HIE2.out]
        go_wp2
        go_ret
        exact ⟨rfl, HB3.out⟩
      · obtain rfl : st = false := by rw [HS]; simp [h1]
        obtain rfl : r = 69 := by rw [← HIE.out]; rfl
        have h1' : (kd == 1) = false := beq_eq_false_iff_ne.2 h1
        clear HS h1 HIE HBK
        go_wp2
        go_ret
        exact ⟨rfl, HB1.out⟩
    · obtain rfl : st = false := by rw [HS]; simp [h0]
      obtain rfl : r = 69 := by rw [← HIE.out]; rfl
      have h0' : (lv == 0) = false := beq_eq_false_iff_ne.2 h0
      clear HS h0 HIE HBK
      go_wp2
      go_ret
      exact ⟨rfl, HB1.out⟩
  · obtain ⟨q, rfl⟩ : ∃ q, k = q + 1 := ⟨k - 1, by omega⟩
    have hq : q < l.length := by omega
    obtain ⟨⟨hp1, hp2⟩, hp3⟩ := hp q hq rfl
    obtain ⟨e0, e1⟩ := HPC.out q hq rfl
    have HS := HLP.out q hq rfl
    rw [HST.out] at HS
    have hq' : (q : Int) < (l.length : Int) := by omega
    have hk1 : (((q : Int) + 1) == 0) = false := beq_eq_false_iff_ne.2 (by omega)
    have hk2 : decide ((0 : Int) < (q : Int) + 1) = true := decide_eq_true (by omega)
    clear HLP HLZ HPC hp HST hpos
    generalize l[q].1.level = pl at *
    generalize l[q].1.kind = pk at *
    go_wp2
    generalize w.alloc (.cells #[.int .i64 lv, .int .i64 kd, .string nm, .string tx, .slice aoA ats.length capA] 49) = W1 at *
    obtain ⟨Bk, hBk⟩ : ∃ Bk, Bk = w.heap.size := ⟨_, rfl⟩
    rw [← hBk] at HBK ⊢
    have HBk := hid hBk
    clear hBk
    have c00 : W1.cell? ⟨Bk, 0, none⟩ = some (.int .i64 lv) := by rw [cell_of_row _ Bk 0 _ _ _ HBK.out]; rfl
    have HSN : Hid (st = false ↔ (lv < 1 ∨ pl < lv - 1 ∨ (lv - 1 = pl ∧ pk = 2))) := hid (by
      rw [HS]
      rcases hp3 with rfl | rfl <;> simp <;> omega)
    clear HS
    have c1' := hid c1
    clear c0 c1 c2 c3 c4
    by_cases h1 : lv < 1
    · obtain rfl : st = false := HSN.out.2 (Or.inl h1)
      obtain rfl : r = 69 := by rw [← HIE.out]; rfl
      have g1 : decide (lv < 1) = true := decide_eq_true h1
      clear HSN HIE
      go_quiet (fail)
      have HB2 := hid (below_drewN HB1.out nq)
      clear HB1 HBK
      generalize W1.drewN nq = W2 at *
      go_wp2
      go_ret
      exact ⟨rfl, HB2.out⟩
    · have g1 : decide (lv < 1) = false := decide_eq_false h1
      by_cases h2 : pl < lv - 1
      · obtain rfl : st = false := HSN.out.2 (Or.inr (Or.inl h2))
        obtain rfl : r = 69 := by rw [← HIE.out]; rfl
        have g2 : decide (pl < lv - 1) = true := decide_eq_true h2
        clear HSN HIE
        go_quiet (fail)
        have HB2 := hid (below_drewN HB1.out nq)
        clear HB1 HBK
        generalize W1.drewN nq = W2 at *
        go_wp2
        go_ret
        exact ⟨rfl, HB2.out⟩
      · have g2 : decide (pl < lv - 1) = false := decide_eq_false h2
        by_cases h3 : lv - 1 = pl
        · have g3 : (lv - 1 == pl) = true := beq_iff_eq.2 h3
          have H3 := hid h3
          clear h3
          rcases hp3 with rfl | rfl
          · obtain rfl : st = true := by
              cases st with
              | true => rfl
              | false => have := HSN.out.1 rfl; omega
            clear HSN
            go_quiet (fail)
            have HB2 := hid (below_drewN HB1.out nq)
            have HK2 : Hid ((W1.drewN nq).heap[Bk]? = some (.cells #[.int .i64 lv, .int .i64 kd, .string nm, .string tx, .slice aoA ats.length capA] 49 (0, 0))) := hid HBK.out
            have HA2 := hid (HAT.out.below HB2.out)
            clear HB1 HBK HAT e0 e1 c00
            generalize W1.drewN nq = W2 at *
            have b0 : W2.cell? ⟨Bk, 0, none⟩ = some (.int .i64 lv) := by rw [cell_of_row _ Bk 0 _ _ _ HK2.out]; rfl
            have b1 : W2.cell? ⟨Bk, 1, none⟩ = some (.int .i64 kd) := by rw [cell_of_row _ Bk 1 _ _ _ HK2.out]; rfl
            have b2 : W2.cell? ⟨Bk, 2, none⟩ = some (.string nm) := by rw [cell_of_row _ Bk 2 _ _ _ HK2.out]; rfl
            have b3 : W2.cell? ⟨Bk, 3, none⟩ = some (.string tx) := by rw [cell_of_row _ Bk 3 _ _ _ HK2.out]; rfl
            have b4 : W2.cell? ⟨Bk, 4, none⟩ = some (.slice aoA ats.length capA) := by rw [cell_of_row _ Bk 4 _ _ _ HK2.out]; rfl
            by_cases h40 : 40 ≤ lv
            · obtain rfl : r = 42 := by rw [← HIE.out]; simp [h40]
              clear HIE
              go_wp2
              go_ret
              exact ⟨rfl, HB2.out⟩
            · by_cases h1000 : 1000 ≤ q + 1
              · obtain rfl : r = 43 := by rw [← HIE.out]; simp [h40, h1000]
                have h1000' : (1000 : Int) ≤ (q : Int) + 1 := by omega
                clear HIE
                go_wp2
                go_ret
                exact ⟨rfl, HB2.out⟩
              · have HIE2 : Hid (P.partsE ⟨lv, kd, nm, tx, ats⟩ = r) := hid (by rw [← HIE.out]; simp [h40, h1000])
                have h1000' : ¬ (1000 : Int) ≤ (q : Int) + 1 := by omega
                clear HIE
                go_wp2_with fail
                refine (rparts_any ⟨lv, kd, nm, tx, ats⟩ (.slice aoA ats.length capA) HA2 HF).mono ?_
                rintro e w3 ⟨rfl, hb3⟩
                have HB3 := hid (HB2.out.trans (hb3.mono HB2.out.size))
                clear hb3
                rw [HIE2.out]
                go_wp2
                go_ret
                exact ⟨rfl, HB3.out⟩
          · obtain rfl : st = false := HSN.out.2 (Or.inr (Or.inr ⟨H3.out, rfl⟩))
            obtain rfl : r = 69 := by rw [← HIE.out]; rfl
            clear HSN HIE
            go_quiet (fail)
            have HB2 := hid (below_drewN HB1.out nq)
            clear HB1 HBK
            generalize W1.drewN nq = W2 at *
            go_wp2
            go_ret
            exact ⟨rfl, HB2.out⟩
        · have g3 : (lv - 1 == pl) = false := beq_eq_false_iff_ne.2 h3
          obtain rfl : st = true := by
            cases st with
            | true => rfl
            | false => have := HSN.out.1 rfl; omega
          clear HSN
          go_quiet (fail)
          have HB2 := hid (below_drewN HB1.out nq)
          have HK2 : Hid ((W1.drewN nq).heap[Bk]? = some (.cells #[.int .i64 lv, .int .i64 kd, .string nm, .string tx, .slice aoA ats.length capA] 49 (0, 0))) := hid HBK.out
          have HA2 := hid (HAT.out.below HB2.out)
          clear HB1 HBK HAT e0 e1 c00
          generalize W1.drewN nq = W2 at *
          have b0 : W2.cell? ⟨Bk, 0, none⟩ = some (.int .i64 lv) := by rw [cell_of_row _ Bk 0 _ _ _ HK2.out]; rfl
          have b1 : W2.cell? ⟨Bk, 1, none⟩ = some (.int .i64 kd) := by rw [cell_of_row _ Bk 1 _ _ _ HK2.out]; rfl
          have b2 : W2.cell? ⟨Bk, 2, none⟩ = some (.string nm) := by rw [cell_of_row _ Bk 2 _ _ _ HK2.out]; rfl
          have b3 : W2.cell? ⟨Bk, 3, none⟩ = some (.string tx) := by rw [cell_of_row _ Bk 3 _ _ _ HK2.out]; rfl
          have b4 : W2.cell? ⟨Bk, 4, none⟩ = some (.slice aoA ats.length capA) := by rw [cell_of_row _ Bk 4 _ _ _ HK2.out]; rfl
          by_cases h40 : 40 ≤ lv
          · exfalso; omega
          · by_cases h1000 : 1000 ≤ q + 1
            · obtain rfl : r = 43 := by rw [← HIE.out]; simp [h40, h1000]
              have h1000' : (1000 : Int) ≤ (q : Int) + 1 := by omega
              clear HIE
              go_wp2
              go_ret
              exact ⟨rfl, HB2.out⟩
            · have HIE2 : Hid (P.partsE ⟨lv, kd, nm, tx, ats⟩ = r) := hid (by rw [← HIE.out]; simp [h40, h1000])
              have h1000' : ¬ (1000 : Int) ≤ (q : Int) + 1 := by omega
              clear HIE
              go_wp2_with fail
              refine (rparts_any ⟨lv, kd, nm, tx, ats⟩ (.slice aoA ats.length capA) HA2 HF).mono ?_
              rintro e w3 ⟨rfl, hb3⟩
              have HB3 := hid (HB2.out.trans (hb3.mono HB2.out.size))
              clear hb3
              rw [HIE2.out]
              go_wp2
              go_ret
              exact ⟨rfl, HB3.out⟩
set_option maxRecDepth 100000 in
set_option maxHeartbeats 4000000 in
theorem rcheck_any (I : Hid (ItemsIn V l w)) (F : Hid (∀ x ∈ l, FitU x.1)) (a b : Int) (HR : Hid (P.checkP (l.map (·.1)) = (a, b))) : Calls Tryd.prog 12 #[V] w fun e w' => e = .returned (.tuple #[.int .i64 a, .int .i64 b]) ∧ Below w.heap.size w w' := by
  obtain ⟨ao, cap, rfl, hl, hc⟩ := I.out.1
  clear hc
  go_enter Tryd.func12, Tryd.ntmps12
  by_cases h0 : l = []
  · subst h0
    have h1 := HR.out
    simp only [P.checkP, List.map_nil, if_true, Prod.mk.injEq] at h1
    obtain ⟨rfl, rfl⟩ := h1
    clear HR I F
    simp only [List.length_nil]
    go_wp2
    go_ret2
    exact ⟨rfl, Below.refl _ _⟩
  · have h1 : ((l.length : Int) == 0) = false := beq_eq_false_iff_ne.2 (by have := List.length_pos_iff.2 h0; omega)
    have HR1 : Hid (P.checkF (prevO (l.map (·.1)) 0) 0 ((l.map (·.1)).drop 0) = (a, b)) := hid (by
      have := HR.out
      unfold P.checkP at this
      rwa [if_neg (by simpa using h0)] at this)
    clear HR
    go_wp2
    go_loopw [4] (fun v4 W => ∃ k : Nat, v4 = .int .i64 (k : Int) ∧ k ≤ l.length ∧ Hid (P.checkF (prevO (l.map (·.1)) k) k ((l.map (·.1)).drop k) = (a, b)) ∧ Hid (∀ q (_ : q < l.length), k = q + 1 → (l[q].1.level < 40 ∧ -9223372036854775808 ≤ l[q].1.level) ∧ (l[q].1.kind = 1 ∨ l[q].1.kind = 2)) ∧ Hid (Below w.heap.size w W)) (fun v4 _ => l.length - (intOf v4).toNat)
    case atStart => exact ⟨0, rfl, by omega, HR1, hid (fun q _ h => by omega), hid (Below.refl _ _)⟩
    case round =>
      clear HR1
      obtain ⟨k, rfl, hk, HR, HP, HB⟩ := hrel
      by_cases hlt : k < l.length
      · have hlt' : (k : Int) < (l.length : Int) := by omega
        have HR2 : Hid ((if P.itemE (prevO (l.map (·.1)) k) k l[k].1 ≠ 0 then ((k : Int), P.itemE (prevO (l.map (·.1)) k) k l[k].1) else P.checkF (some l[k].1) (k + 1) ((l.map (·.1)).drop (k + 1))) = (a, b)) := hid (by
          have := HR.out
          rw [List.drop_eq_getElem_cons (by simpa using hlt), P.check_cons] at this
          simpa using this)
        have I1 := hid (I.out.below HB.out)
        have HF := hid (F.out _ (List.getElem_mem hlt))
        clear HR
        go_wp2_with fail
        refine (rplace_any I1 F k hlt HP.out).mono ?_
        rintro e w1 ⟨rfl, hb1⟩
        have HB1 := hid (HB.out.trans (hb1.mono HB.out.size))
        clear hb1 I1
        by_cases hq : P.itemE (prevO (l.map (·.1)) k) k l[k].1 = 0
        · have HR3 : Hid (P.checkF (prevO (l.map (·.1)) (k + 1)) (k + 1) ((l.map (·.1)).drop (k + 1)) = (a, b)) := hid (by
            have := HR2.out
            rw [hq, if_neg (by simp)] at this
            simpa [prevO, hlt] using this)
          have HP2 : Hid (∀ q (_ : q < l.length), k + 1 = q + 1 → (l[q].1.level < 40 ∧ -9223372036854775808 ≤ l[q].1.level) ∧ (l[q].1.kind = 1 ∨ l[q].1.kind = 2)) := hid (fun q hq2 e => by
            obtain rfl : q = k := by omega
            exact ⟨⟨(P.item_ok hq).2.1, HF.out.1.1⟩, P.parts_kind (P.item_ok hq).2.2.2⟩)
          rw [hq]
          clear hq HR2 HF
          go_wp2
          go_roundw
          case rel => exact ⟨k + 1, by go_num, by omega, HR3, HP2, HB1⟩
          case measure => (simp [intOf]; try omega)
        · have h2 := HR2.out
          rw [if_pos hq] at h2
          simp only [Prod.mk.injEq] at h2
          obtain ⟨rfl, h3⟩ := h2
          rw [h3] at hq ⊢
          have hq' : (b == 0) = false := beq_eq_false_iff_ne.2 hq
          clear hq HR2 HF h3
          go_wp2
          go_ret2
          exact ⟨rfl, HB1.out⟩
      · have hlt' : ¬ (k : Int) < (l.length : Int) := by omega
        have h2 := HR.out
        rw [List.drop_eq_nil_of_le (by simp; omega)] at h2
        simp only [P.checkF, Prod.mk.injEq] at h2
        obtain ⟨rfl, rfl⟩ := h2
        clear HR HP
        go_wp2
        go_ret2
        exact ⟨rfl, HB.out⟩
end
end Go.Proofs.YtidccohjehegjaaDoor
