/- The walks of parse.Check and of what it calls: what is amiss with a row of items is told as the plain function says. -/
import Derived.Test.YtidccohjehegjaaDoorK4
namespace Go.Proofs.YtidccohjehegjaaDoor
open Go.RowKit Go.Shelf
/-- What is asked of an item's parts where they come from outside. -/
def FitC (x : P.Itm) : Prop := (-9223372036854775808 ≤ x.level ∧ x.level ≤ 9223372036854775807) ∧ (-9223372036854775808 ≤ x.kind ∧ x.kind ≤ 9223372036854775807) ∧ x.name.size ≤ maxLen ∧ x.text.size ≤ maxLen ∧ ∀ a ∈ x.attrs, a.1.size ≤ maxLen ∧ a.2.size ≤ maxLen
theorem leq_eq (a b : ByteArray) : (Op.bytesLess a.toList b.toList || a.toList == b.toList) = !(L.ltB b a) := by
  rw [str_eq, ByteArray.toList_eq, ByteArray.toList_eq, L.less_lt]
  cases h : L.ltB b a with
  | true =>
    have h1 : ¬ a.data.toList < b.data.toList := fun q => by
      have h2 : L.ltB a b = true := by simpa [L.ltB] using q
      have := L.lt_tr h h2
      rw [L.lt_irr] at this
      cases this
    have h3 : a ≠ b := by rintro rfl; rw [L.lt_irr] at h; cases h
    simp [h1, h3]
  | false =>
    cases h1 : L.ltB a b with
    | true =>
      have h2 : a.data.toList < b.data.toList := by simpa [L.ltB] using h1
      simp [h2]
    | false =>
      have h3 : a = b := L.lt_tri a b h1 h
      simp [h3]
section
variable {w : World}
set_option maxRecDepth 100000 in
set_option maxHeartbeats 1000000 in
theorem unfit_any (s : ByteArray) (hs : s.size ≤ maxLen) (ht : Tab w) : Calls Tryd.prog 70 #[.string s] w fun e w' => e = .returned (.int .i64 (P.unfitE s)) ∧ Below w.heap.size w w' := by
  obtain ⟨c, HC⟩ : ∃ c, Hid (G.countZ s.data.toList = c) := ⟨_, hid rfl⟩
  obtain ⟨r, HR⟩ : ∃ r, Hid (P.unfitE s = r) := ⟨_, hid rfl⟩
  rw [HR.out]
  have HR2 := HR.out
  unfold P.unfitE at HR2
  rw [HC.out] at HR2
  clear HR
  go_enter Tryd.func70, Tryd.ntmps70
  go_wp2_with fail
  refine (count_any s c w ht hs HC).mono ?_
  rintro e w1 ⟨rfl, hb⟩
  have HB := hid hb
  clear hb HC
  by_cases h1 : c < 0
  · rw [if_pos h1] at HR2
    subst HR2
    go_wp2
    go_ret
    exact ⟨rfl, HB.out⟩
  · rw [if_neg h1] at HR2
    by_cases h2 : 1500 < s.size
    · rw [if_pos h2] at HR2
      subst HR2
      have h2' : (1500 : Int) < (s.size : Int) := by omega
      go_wp2
      go_ret
      exact ⟨rfl, HB.out⟩
    · rw [if_neg h2] at HR2
      subst HR2
      have h2' : ¬ (1500 : Int) < (s.size : Int) := by omega
      go_wp2
      go_ret
      exact ⟨rfl, HB.out⟩
theorem P.rise_cons (p : ByteArray) (a : L.Attr) (l : List L.Attr) : P.riseF p (a :: l) = (L.nameP a.1 && L.ltB p a.1 && P.riseF a.1 l) := rfl
set_option maxRecDepth 100000 in
set_option maxHeartbeats 4000000 in
theorem rise_any (v : Value) (l : List L.Attr) (I : Hid (AttrsIn v l w)) (F : Hid (∀ a ∈ l, a.1.size ≤ maxLen ∧ a.2.size ≤ maxLen)) (ht : Tab w) : Calls Tryd.prog 84 #[v] w fun e w' => e = .returned (.bool (P.riseF L.noB l)) ∧ Below w.heap.size w w' := by
  obtain ⟨ao, cap, rfl, hl, hc⟩ := I.out
  have HT := hid ht
  have HCC := hid hc
  clear ht hc I
  obtain ⟨r, HR⟩ : ∃ r, Hid (P.riseF L.noB l = r) := ⟨_, hid rfl⟩
  rw [HR.out]
  go_enter Tryd.func84, Tryd.ntmps84
  go_wp2
  go_loopw [3, 8] (fun v3 v8 W => ∃ (q : Nat) (p : ByteArray), v8 = .int .i64 (q : Int) ∧ v3 = .string p ∧ q ≤ l.length ∧ Hid (P.riseF p (l.drop q) = r) ∧ Hid (Below w.heap.size w W)) (fun _ v8 _ => l.length - (intOf v8).toNat)
  case atStart => exact ⟨0, L.noB, rfl, rfl, by omega, HR, hid (Below.refl _ _)⟩
  case round =>
    clear HR
    obtain ⟨q, p, rfl, rfl, hq, HR, HB⟩ := hrel
    by_cases h1 : q < l.length
    · have h1' : (q : Int) < (l.length : Int) := by omega
      obtain ⟨g, o, rfl, hg, hc⟩ := HCC.out (by rintro rfl; simp at h1)
      obtain ⟨k0, k1⟩ := hc q h1
      have c0 : wr.cell? ⟨g, o + q * 2, none⟩ = some (.string l[q].1) := (HB.out.cell (p := ⟨g, o + q * 2, none⟩) hg).trans k0
      have c1 : wr.cell? ⟨g, o + q * 2 + 1, none⟩ = some (.string l[q].2) := (HB.out.cell (p := ⟨g, o + q * 2 + 1, none⟩) hg).trans k1
      have hF := (F.out _ (List.getElem_mem h1)).1
      have HR2 : Hid ((L.nameP l[q].1 && L.ltB p l[q].1 && P.riseF l[q].1 (l.drop (q + 1))) = r) := hid (by rw [← P.rise_cons, ← List.drop_eq_getElem_cons h1]; exact HR.out)
      have HB2 : Hid (Below w.heap.size w (wr.alloc (.cells #[.string l[q].1, .string l[q].2] 79))) := hid (HB.out.alloc HB.out.size _)
      clear k0 k1 hc HR
      generalize l[q].1 = an at *
      generalize l[q].2 = av at *
      cases hn : L.nameP an with
      | false =>
        obtain rfl : r = false := by rw [← HR2.out, hn]; rfl
        have HN : Hid (G.nameB an.data.toList = false) := hid hn
        clear hn HR2
        go_wp2_with fail
        refine (name_any an false _ (HT.out.below HB2.out) hF HN).mono ?_
        rintro e w2 ⟨rfl, hb2⟩
        have HB3 := hid (HB2.out.trans (hb2.mono HB2.out.size))
        clear hb2
        go_wp2
        go_ret
        exact ⟨rfl, HB3.out⟩
      | true =>
        have HN : Hid (G.nameB an.data.toList = true) := hid hn
        have HR3 : Hid ((L.ltB p an && P.riseF an (l.drop (q + 1))) = r) := hid (by rw [← HR2.out, hn]; simp)
        clear hn HR2
        go_wp2_with fail
        refine (name_any an true _ (HT.out.below HB2.out) hF HN).mono ?_
        rintro e w2 ⟨rfl, hb2⟩
        have HB3 := hid (HB2.out.trans (hb2.mono HB2.out.size))
        have x0 : w2.cell? ⟨wr.heap.size, 0, none⟩ = some (.string an) := by
          rw [hb2.cell (p := ⟨wr.heap.size, 0, none⟩) (by simp), cell_of_row _ wr.heap.size 0 _ _ _ (heap_alloc_new wr _)]; rfl
        have lq := leq_eq an p
        clear hb2
        cases hlt : L.ltB p an with
        | false =>
          obtain rfl : r = false := by rw [← HR3.out, hlt]; rfl
          rw [hlt] at lq
          simp only [Bool.not_false] at lq
          clear HR3 hlt
          go_wp2
          go_ret
          exact ⟨rfl, HB3.out⟩
        | true =>
          have HR4 : Hid (P.riseF an (l.drop (q + 1)) = r) := hid (by rw [← HR3.out, hlt]; simp)
          rw [hlt] at lq
          simp only [Bool.not_true] at lq
          clear HR3 hlt
          go_wp2
          go_roundw
          case rel => exact ⟨q + 1, an, by go_num, rfl, by omega, HR4, HB3⟩
          case measure => (simp [intOf]; try omega)
    · have h1' : ¬ (q : Int) < (l.length : Int) := by omega
      obtain rfl : r = true := by rw [← HR.out, List.drop_eq_nil_of_le (by omega)]; rfl
      clear HR
      go_wp2
      go_ret
      exact ⟨rfl, HB.out⟩
theorem P.vals_cons (a : L.Attr) (l : List L.Attr) : P.valsE (a :: l) = if P.unfitE a.2 ≠ 0 then P.unfitE a.2 else P.valsE l := rfl
set_option maxRecDepth 100000 in
set_option maxHeartbeats 4000000 in
theorem misnamed_any (x : P.Itm) (v : Value) (I : Hid (AttrsIn v x.attrs w)) (F : Hid (FitC x)) (ht : Tab w) : Calls Tryd.prog 71 #[itmV x v] w fun e w' => e = .returned (.int .i64 (if L.nameP x.name = false ∨ P.riseF L.noB x.attrs = false then 63 else if 20 < x.attrs.length then 67 else P.valsE x.attrs)) ∧ Below w.heap.size w w' := by
  have HT := hid ht
  clear ht
  obtain ⟨lv, kd, nm, tx, ats⟩ := x
  obtain ⟨r, HR⟩ : ∃ r, Hid ((if L.nameP nm = false ∨ P.riseF L.noB ats = false then 63 else if 20 < ats.length then 67 else P.valsE ats) = r) := ⟨_, hid rfl⟩
  dsimp only at *
  rw [HR.out]
  obtain ⟨ao, cap, rfl, hl, hc⟩ := I.out
  have HCC := hid hc
  clear hc
  have HB1 : Hid (Below w.heap.size w (w.alloc (.cells #[.int .i64 lv, .int .i64 kd, .string nm, .string tx, .slice ao ats.length cap] 49))) := hid ((Below.refl _ _).alloc (Nat.le_refl _) _)
  have bI : Hid ((w.alloc (.cells #[.int .i64 lv, .int .i64 kd, .string nm, .string tx, .slice ao ats.length cap] 49)).heap[w.heap.size]? = some (.cells #[.int .i64 lv, .int .i64 kd, .string nm, .string tx, .slice ao ats.length cap] 49 (0, 0))) := hid (heap_alloc_new w _)
  have hF := F.out.2.2.1
  unfold itmV
  dsimp only at hF
  go_enter Tryd.func71, Tryd.ntmps71
  cases hn : L.nameP nm with
  | false =>
    obtain rfl : r = 63 := by rw [← HR.out, hn]; simp
    have HN : Hid (G.nameB nm.data.toList = false) := hid hn
    clear hn HR
    go_wp2_with fail
    refine (name_any nm false _ (HT.out.below HB1.out) hF HN).mono ?_
    rintro e w2 ⟨rfl, hb2⟩
    have HB3 := hid (HB1.out.trans (hb2.mono HB1.out.size))
    clear hb2
    go_wp2
    go_ret
    exact ⟨rfl, HB3.out⟩
  | true =>
    have HN : Hid (G.nameB nm.data.toList = true) := hid hn
    have HR2 : Hid ((if P.riseF L.noB ats = false then 63 else if 20 < ats.length then 67 else P.valsE ats) = r) := hid (by rw [← HR.out, hn]; simp)
    clear hn HR
    go_wp2_with fail
    refine (name_any nm true _ (HT.out.below HB1.out) hF HN).mono ?_
    rintro e w2 ⟨rfl, hb2⟩
    have HB3 := hid (HB1.out.trans (hb2.mono HB1.out.size))
    have bI2 := hid ((hb2.block _ (lt_of_block bI.out)).trans bI.out)
    have x4 : w2.cell? ⟨w.heap.size, 4, none⟩ = some (.slice ao ats.length cap) := by rw [cell_of_row _ w.heap.size 4 _ _ _ bI2.out]; rfl
    clear hb2 bI HB1
    go_wp2_with fail
    refine (rise_any _ ats (hid (I.out.below HB3.out)) (hid F.out.2.2.2.2) (HT.out.below HB3.out)).mono ?_
    rintro e w3 ⟨rfl, hb3⟩
    have HB4 := hid (HB3.out.trans (hb3.mono HB3.out.size))
    have bI3 := hid ((hb3.block _ (lt_of_block bI2.out)).trans bI2.out)
    have y4 : w3.cell? ⟨w.heap.size, 4, none⟩ = some (.slice ao ats.length cap) := by rw [cell_of_row _ w.heap.size 4 _ _ _ bI3.out]; rfl
    clear hb3 bI2 HB3 x4
    cases hr : P.riseF L.noB ats with
    | false =>
      obtain rfl : r = 63 := by rw [← HR2.out, hr]; simp
      clear hr HR2
      go_wp2
      go_ret
      exact ⟨rfl, HB4.out⟩
    | true =>
      have HR3 : Hid ((if 20 < ats.length then 67 else P.valsE ats) = r) := hid (by rw [← HR2.out, hr]; simp)
      clear hr HR2
      by_cases h20 : 20 < ats.length
      · obtain rfl : r = 67 := by rw [← HR3.out, if_pos h20]
        have h20' : (20 : Int) < (ats.length : Int) := by omega
        clear HR3 HCC
        go_wp2
        go_ret
        exact ⟨rfl, HB4.out⟩
      · have h20' : ¬ (20 : Int) < (ats.length : Int) := by omega
        have HR4 : Hid (P.valsE ats = r) := hid (by rw [← HR3.out, if_neg h20])
        clear HR3
        go_wp2
        go_loopw [23] (fun v23 W => ∃ q : Nat, v23 = .int .i64 (q : Int) ∧ q ≤ ats.length ∧ Hid (P.valsE (ats.drop q) = r) ∧ Hid (Below w.heap.size w W)) (fun v23 _ => ats.length - (intOf v23).toNat)
        case atStart => exact ⟨0, rfl, by omega, HR4, HB4⟩
        case round =>
          clear HR4 HB4 bI3 y4
          obtain ⟨q, rfl, hq, HR, HB⟩ := hrel
          by_cases h1 : q < ats.length
          · have h1' : (q : Int) < (ats.length : Int) := by omega
            obtain ⟨g, o, rfl, hg, hc⟩ := HCC.out (by rintro rfl; simp at h1)
            obtain ⟨k0, k1⟩ := hc q h1
            have c0 : wr.cell? ⟨g, o + q * 2, none⟩ = some (.string ats[q].1) := (HB.out.cell (p := ⟨g, o + q * 2, none⟩) hg).trans k0
            have c1 : wr.cell? ⟨g, o + q * 2 + 1, none⟩ = some (.string ats[q].2) := (HB.out.cell (p := ⟨g, o + q * 2 + 1, none⟩) hg).trans k1
            have hF2 := (F.out.2.2.2.2 _ (List.getElem_mem h1)).2
            have HR2 : Hid ((if P.unfitE ats[q].2 ≠ 0 then P.unfitE ats[q].2 else P.valsE (ats.drop (q + 1))) = r) := hid (by rw [← P.vals_cons, ← List.drop_eq_getElem_cons h1]; exact HR.out)
            have HB2 : Hid (Below w.heap.size w (wr.alloc (.cells #[.string ats[q].1, .string ats[q].2] 79))) := hid (HB.out.alloc HB.out.size _)
            clear k0 k1 hc HR
            generalize ats[q].1 = an at *
            generalize ats[q].2 = av at *
            go_wp2_with fail
            refine (unfit_any av hF2 (HT.out.below HB2.out)).mono ?_
            rintro e w5 ⟨rfl, hb5⟩
            have HB5 := hid (HB2.out.trans (hb5.mono HB2.out.size))
            clear hb5 HB2
            by_cases hu : P.unfitE av = 0
            · have HR3 : Hid (P.valsE (ats.drop (q + 1)) = r) := hid (by rw [← HR2.out, if_neg (by simp [hu])])
              rw [hu]
              clear hu HR2
              go_wp2
              go_roundw
              case rel => exact ⟨q + 1, by go_num, by omega, HR3, HB5⟩
              case measure => (simp [intOf]; try omega)
            · have hE : P.unfitE av = r := by rw [← HR2.out, if_pos hu]
              rw [hE] at hu ⊢
              have hu' : (r == 0) = false := beq_eq_false_iff_ne.2 hu
              clear hu hE HR2
              go_wp2
              go_ret
              exact ⟨rfl, HB5.out⟩
          · have h1' : ¬ (q : Int) < (ats.length : Int) := by omega
            obtain rfl : r = 0 := by rw [← HR.out, List.drop_eq_nil_of_le (by omega)]; rfl
            clear HR
            go_wp2
            go_ret
            exact ⟨rfl, HB.out⟩
theorem neq_empty (a : ByteArray) (h : a ≠ L.noB) : (a.toList == []) = false := by
  have := str_eq a L.noB
  rw [ByteArray.toList_eq L.noB] at this
  have h2 : (a.toList == L.noB.data.toList) = false := by rw [this]; simpa using h
  exact h2
set_option maxRecDepth 100000 in
set_option maxHeartbeats 4000000 in
theorem misshapen_any (x : P.Itm) (v : Value) (I : Hid (AttrsIn v x.attrs w)) (F : Hid (FitC x)) (ht : Tab w) : Calls Tryd.prog 49 #[itmV x v] w fun e w' => e = .returned (.int .i64 (P.partsE x)) ∧ Below w.heap.size w w' := by
  have HT := hid ht
  clear ht
  obtain ⟨r, HR⟩ : ∃ r, Hid (P.partsE x = r) := ⟨_, hid rfl⟩
  rw [HR.out]
  obtain ⟨lv, kd, nm, tx, ats⟩ := x
  have HR1 := HR.out
  unfold P.partsE at HR1
  dsimp only at HR1
  clear HR
  obtain ⟨ao, cap, rfl, hl, _⟩ := I.out
  have HB1 : Hid (Below w.heap.size w (w.alloc (.cells #[.int .i64 lv, .int .i64 kd, .string nm, .string tx, .slice ao ats.length cap] 49))) := hid ((Below.refl _ _).alloc (Nat.le_refl _) _)
  dsimp only at *
  unfold itmV
  dsimp only
  go_enter Tryd.func49, Tryd.ntmps49
  by_cases h2 : kd = 2
  · rw [if_pos h2] at HR1
    subst h2
    by_cases hn : nm = L.noB
    · subst hn
      by_cases hA : ats = []
      · subst hA
        rw [if_neg (by simp)] at HR1
        have HR2 := hid HR1
        clear HR1
        unfold L.noB
        simp only [List.length_nil] at *
        go_wp2_with fail
        refine (unfit_any tx F.out.2.2.2.1 (HT.out.below HB1.out)).mono ?_
        rintro e w3 ⟨rfl, hb3⟩
        have HB3 := hid (HB1.out.trans (hb3.mono HB1.out.size))
        clear hb3
        rw [HR2.out]
        go_wp2
        go_ret
        exact ⟨rfl, HB3.out⟩
      · obtain rfl : r = 68 := by rw [← HR1, if_pos (Or.inr hA)]
        have hA' : (0 : Int) < (ats.length : Int) := by have := List.length_pos_iff.2 hA; omega
        clear HR1 hA
        unfold L.noB at *
        go_wp2
        go_ret
        exact ⟨rfl, HB1.out⟩
    · obtain rfl : r = 68 := by rw [← HR1, if_pos (Or.inl hn)]
      have hn' := neq_empty nm hn
      clear HR1 hn
      go_wp2
      go_ret
      exact ⟨rfl, HB1.out⟩
  · rw [if_neg h2] at HR1
    have h2' : (kd == 2) = false := beq_eq_false_iff_ne.2 h2
    by_cases h1 : kd = 1
    · by_cases hx : tx = L.noB
      · rw [if_neg (by simp [h1, hx])] at HR1
        subst h1 hx
        clear h2 h2'
        unfold L.noB at HB1 ⊢
        go_wp2_with fail
        refine (misnamed_any ⟨lv, 1, nm, ⟨#[]⟩, ats⟩ (.slice ao ats.length cap) (hid (I.out.below HB1.out)) F (HT.out.below HB1.out)).mono ?_
        rintro e w3 ⟨rfl, hb3⟩
        have HB3 := hid (HB1.out.trans (hb3.mono HB1.out.size))
        clear hb3
        dsimp only
        have HR2 := hid HR1
        clear HR1
        rw [HR2.out]
        go_wp2
        go_ret
        exact ⟨rfl, HB3.out⟩
      · obtain rfl : r = 68 := by rw [← HR1, if_pos (Or.inr hx)]
        have hx' := neq_empty tx hx
        subst h1
        clear HR1 hx h2 h2'
        go_wp2
        go_ret
        exact ⟨rfl, HB1.out⟩
    · obtain rfl : r = 68 := by rw [← HR1, if_pos (Or.inl h1)]
      have h1' : (kd == 1) = false := beq_eq_false_iff_ne.2 h1
      clear HR1 h1 h2
      go_wp2
      go_ret
      exact ⟨rfl, HB1.out⟩
/-- The item ahead of one. -/
def prevO (l : List P.Itm) (k : Nat) : Option P.Itm := if k = 0 then none else l[k - 1]?
variable {V : Value} {l : List IV}
set_option maxRecDepth 100000 in
set_option maxHeartbeats 4000000 in
theorem stands_any (I : Hid (ItemsIn V l w)) (k : Nat) (hk : k < l.length) (hp : ∀ q (_ : q < l.length), k = q + 1 → l[q].1.level < 40 ∧ -9223372036854775808 ≤ l[q].1.level) : Calls Tryd.prog 69 #[V, .int .i64 (k : Int)] w fun e w' => e = .returned (.bool (P.standsB (prevO (l.map (·.1)) k) l[k].1)) ∧ Below w.heap.size w w' := by
  obtain ⟨ao, cap, rfl, hl, hc⟩ := I.out.1
  obtain ⟨g, o, rfl, hg, hc⟩ := hc (by rintro rfl; simp at hk)
  obtain ⟨c0, c1, c2, c3, c4⟩ := hc k hk
  have hA := I.out.2 _ (List.getElem_mem hk)
  obtain ⟨aoA, capA, eA, -, -⟩ := hA
  rw [eA] at c4
  have hk' : (k : Int) < (l.length : Int) := by omega
  have HB1 : Hid (Below w.heap.size w (w.alloc (.cells #[.int .i64 l[k].1.level, .int .i64 l[k].1.kind, .string l[k].1.name, .string l[k].1.text, .slice aoA l[k].1.attrs.length capA] 49))) := hid ((Below.refl _ _).alloc (Nat.le_refl _) _)
  obtain ⟨r, HR⟩ : ∃ r, Hid (P.standsB (prevO (l.map (·.1)) k) l[k].1 = r) := ⟨_, hid rfl⟩
  rw [HR.out]
  rcases Nat.eq_zero_or_pos k with rfl | hpos
  · have HR1 : (decide (l[0].1.level = 0) && decide (l[0].1.kind = 1)) = r := HR.out
    clear HR hc eA I hp
    simp only [Nat.zero_mul, Nat.add_zero] at c0 c1 c2 c3 c4
    rw [show ((0 : Nat) : Int) = 0 from rfl] at hk' ⊢
    generalize l[0].1.attrs.length = na at *
    generalize l[0].1.level = lv at *
    generalize l[0].1.kind = kd at *
    go_enter Tryd.func69, Tryd.ntmps69
    by_cases h0 : lv = 0
    · subst h0
      by_cases h1 : kd = 1
      · subst h1
        obtain rfl : r = true := by rw [← HR1]; rfl
        clear HR1
        go_wp2
        go_ret
        exact ⟨rfl, HB1.out⟩
      · obtain rfl : r = false := by rw [← HR1]; simp [h1]
        have h1' : (kd == 1) = false := beq_eq_false_iff_ne.2 h1
        clear HR1 h1
        go_wp2
        go_ret
        exact ⟨rfl, HB1.out⟩
    · obtain rfl : r = false := by rw [← HR1]; simp [h0]
      have h0' : (lv == 0) = false := beq_eq_false_iff_ne.2 h0
      clear HR1 h0
      go_wp2
      go_ret
      exact ⟨rfl, HB1.out⟩
  · obtain ⟨q, rfl⟩ : ∃ q, k = q + 1 := ⟨k - 1, by omega⟩
    have hq : q < l.length := by omega
    obtain ⟨hp1, hp2⟩ := hp q hq rfl
    obtain ⟨d0, d1, _, _, _⟩ := hc q hq
    have HR1 : (decide (1 ≤ l[q + 1].1.level) && decide (l[q + 1].1.level ≤ l[q].1.level + (if l[q].1.kind = 1 then 1 else 0))) = r := by
      rw [← HR.out]
      simp [prevO, hq, P.standsB]
    have e0 : (w.alloc (.cells #[.int .i64 l[q + 1].1.level, .int .i64 l[q + 1].1.kind, .string l[q + 1].1.name, .string l[q + 1].1.text, .slice aoA l[q + 1].1.attrs.length capA] 49)).cell? ⟨g, o + q * 5, none⟩ = some (.int .i64 l[q].1.level) := by rw [World.cell?_alloc_past _ _ _ hg]; exact d0
    have e1 : (w.alloc (.cells #[.int .i64 l[q + 1].1.level, .int .i64 l[q + 1].1.kind, .string l[q + 1].1.name, .string l[q + 1].1.text, .slice aoA l[q + 1].1.attrs.length capA] 49)).cell? ⟨g, o + q * 5 + 1, none⟩ = some (.int .i64 l[q].1.kind) := by rw [World.cell?_alloc_past _ _ _ hg]; exact d1
    have hq' : (q : Int) < (l.length : Int) := by omega
    clear HR hc eA I hp d0 d1 hpos
    generalize l[q + 1].1.attrs.length = na at *
    generalize l[q + 1].1.level = lv at *
    generalize l[q + 1].1.kind = kd at *
    generalize l[q].1.level = pl at *
    generalize l[q].1.kind = pk at *
    go_enter Tryd.func69, Tryd.ntmps69
    by_cases h1 : pk = 1
    · subst h1
      rw [if_pos rfl] at HR1
      by_cases h2 : 1 ≤ lv
      · by_cases h3 : lv ≤ pl + 1
        · obtain rfl : r = true := by rw [← HR1]; simp [h2, h3]
          clear HR1
          go_wp2
          go_ret
          exact ⟨rfl, HB1.out⟩
        · obtain rfl : r = false := by rw [← HR1]; simp [h3]
          clear HR1
          go_wp2
          go_ret
          exact ⟨rfl, HB1.out⟩
      · obtain rfl : r = false := by rw [← HR1]; simp [h2]
        clear HR1
        go_wp2
        go_ret
        exact ⟨rfl, HB1.out⟩
    · have h1' : (pk == 1) = false := beq_eq_false_iff_ne.2 h1
      rw [if_neg h1] at HR1
      clear h1
      by_cases h2 : 1 ≤ lv
      · by_cases h3 : lv ≤ pl
        · obtain rfl : r = true := by rw [← HR1]; simp [h2, h3]
          clear HR1
          go_wp2
          go_ret
          exact ⟨rfl, HB1.out⟩
        · obtain rfl : r = false := by rw [← HR1]; simp [h3]
          clear HR1
          go_wp2
          go_ret
          exact ⟨rfl, HB1.out⟩
      · obtain rfl : r = false := by rw [← HR1]; simp [h2]
        clear HR1
        go_wp2
        go_ret
        exact ⟨rfl, HB1.out⟩
set_option maxRecDepth 100000 in
set_option maxHeartbeats 4000000 in
theorem misplaced_any (I : Hid (ItemsIn V l w)) (k : Nat) (hk : k < l.length) (hp : ∀ q (_ : q < l.length), k = q + 1 → l[q].1.level < 40 ∧ -9223372036854775808 ≤ l[q].1.level) : Calls Tryd.prog 48 #[V, .int .i64 (k : Int)] w fun e w' => e = .returned (.int .i64 (P.placeE (prevO (l.map (·.1)) k) k l[k].1)) ∧ Below w.heap.size w w' := by
  obtain ⟨ao, cap, rfl, hl, hc⟩ := I.out.1
  obtain ⟨g, o, rfl, hg, hc⟩ := hc (by rintro rfl; simp at hk)
  have hk' : (k : Int) < (l.length : Int) := by omega
  obtain ⟨r, HR⟩ : ∃ r, Hid (P.placeE (prevO (l.map (·.1)) k) k l[k].1 = r) := ⟨_, hid rfl⟩
  rw [HR.out]
  have HR1 := HR.out
  unfold P.placeE at HR1
  clear HR
  go_enter Tryd.func48, Tryd.ntmps48
  go_wp2_with fail
  refine (stands_any I k hk hp).mono ?_
  rintro e w1 ⟨rfl, hb1⟩
  have c0 : w1.cell? ⟨g, o + k * 5, none⟩ = some (.int .i64 l[k].1.level) := (hb1.cell (p := ⟨g, o + k * 5, none⟩) hg).trans (hc k hk).1
  have HB1 := hid hb1
  clear hb1 hc I hp
  generalize P.standsB (prevO (l.map (·.1)) k) l[k].1 = st at *
  generalize l[k].1.level = lv at *
  cases st with
  | false =>
    rw [if_pos rfl] at HR1
    subst HR1
    go_wp2
    go_ret
    exact ⟨rfl, HB1.out⟩
  | true =>
    rw [if_neg (by simp)] at HR1
    by_cases h1 : 40 ≤ lv
    · rw [if_pos h1] at HR1
      subst HR1
      go_wp2
      go_ret
      exact ⟨rfl, HB1.out⟩
    · rw [if_neg h1] at HR1
      by_cases h2 : 1000 ≤ k
      · rw [if_pos h2] at HR1
        subst HR1
        have h2' : (1000 : Int) ≤ (k : Int) := by omega
        go_wp2
        go_ret
        exact ⟨rfl, HB1.out⟩
      · rw [if_neg h2] at HR1
        subst HR1
        have h2' : ¬ (1000 : Int) ≤ (k : Int) := by omega
        go_wp2
        go_ret
        exact ⟨rfl, HB1.out⟩
theorem P.check_cons (prev : Option P.Itm) (k : Nat) (x : P.Itm) (l : List P.Itm) : P.checkF prev k (x :: l) = if P.itemE prev k x ≠ 0 then ((k : Int), P.itemE prev k x) else P.checkF (some x) (k + 1) l := rfl
set_option maxRecDepth 100000 in
set_option maxHeartbeats 4000000 in
theorem check_any (I : Hid (ItemsIn V l w)) (F : Hid (∀ x ∈ l, FitC x.1)) (ht : Tab w) (a b : Int) (HR : Hid (P.checkP (l.map (·.1)) = (a, b))) : Calls Tryd.prog 32 #[V] w fun e w' => e = .returned (.tuple #[.int .i64 a, .int .i64 b]) ∧ Below w.heap.size w w' := by
  have HT := hid ht
  clear ht
  obtain ⟨ao, cap, rfl, hl, hc⟩ := I.out.1
  have HCC := hid hc
  clear hc
  go_enter Tryd.func32, Tryd.ntmps32
  by_cases h0 : l = []
  · subst h0
    have h1 := HR.out
    simp only [P.checkP, List.map_nil, if_true, Prod.mk.injEq] at h1
    obtain ⟨rfl, rfl⟩ := h1
    clear HR HCC I F
    simp only [List.length_nil]
    go_wp2
    go_ret2
    exact ⟨rfl, Below.refl _ _⟩
  · have h1 : ((l.length : Int) == 0) = false := beq_eq_false_iff_ne.2 (by have := List.length_pos_iff.2 h0; omega)
    have HR1 : Hid (P.checkF (prevO (l.map (·.1)) 0) 0 ((l.map (·.1)).drop 0) = (a, b)) := hid (by
      have := HR.out
      unfold P.checkP at this
      rwa [if_neg (by simpa using h0)] at this)
    clear HR
    go_wp2
    go_loopw [11] (fun v11 W => ∃ k : Nat, v11 = .int .i64 (k : Int) ∧ k ≤ l.length ∧ Hid (P.checkF (prevO (l.map (·.1)) k) k ((l.map (·.1)).drop k) = (a, b)) ∧ Hid (∀ q (_ : q < l.length), k = q + 1 → l[q].1.level < 40 ∧ -9223372036854775808 ≤ l[q].1.level) ∧ Hid (Below w.heap.size w W)) (fun v11 _ => l.length - (intOf v11).toNat)
    case atStart => exact ⟨0, rfl, by omega, HR1, hid (fun q _ h => by omega), hid (Below.refl _ _)⟩
    case round =>
      clear HR1
      obtain ⟨k, rfl, hk, HR, HP, HB⟩ := hrel
      by_cases hlt : k < l.length
      · have hlt' : (k : Int) < (l.length : Int) := by omega
        obtain ⟨g, o, rfl, hg, hc⟩ := HCC.out h0
        obtain ⟨k0, k1, k2, k3, k4⟩ := hc k hlt
        have HR2 : Hid ((if P.itemE (prevO (l.map (·.1)) k) k l[k].1 ≠ 0 then ((k : Int), P.itemE (prevO (l.map (·.1)) k) k l[k].1) else P.checkF (some l[k].1) (k + 1) ((l.map (·.1)).drop (k + 1))) = (a, b)) := hid (by
          have := HR.out
          rw [List.drop_eq_getElem_cons (by simpa using hlt), P.check_cons] at this
          simpa using this)
        have I1 := hid (I.out.below HB.out)
        have HA := hid (I.out.2 _ (List.getElem_mem hlt))
        have HF := hid (F.out _ (List.getElem_mem hlt))
        have HK := hid (⟨k0, k1, k2, k3, k4⟩ : _ ∧ _ ∧ _ ∧ _ ∧ _)
        obtain ⟨aoA, capA, eA, -, -⟩ := HA.out
        clear HR hc k0 k1 k2 k3 k4
        go_wp2_with fail
        refine (misplaced_any I1 k hlt HP.out).mono ?_
        rintro e w1 ⟨rfl, hb1⟩
        have HB1 := hid (HB.out.trans (hb1.mono HB.out.size))
        clear hb1 I1
        by_cases hE : P.placeE (prevO (l.map (·.1)) k) k l[k].1 = 0
        · have c0 : w1.cell? ⟨g, o + k * 5, none⟩ = some (.int .i64 l[k].1.level) := (HB1.out.cell (p := ⟨g, o + k * 5, none⟩) hg).trans HK.out.1
          have c1 : w1.cell? ⟨g, o + k * 5 + 1, none⟩ = some (.int .i64 l[k].1.kind) := (HB1.out.cell (p := ⟨g, o + k * 5 + 1, none⟩) hg).trans HK.out.2.1
          have c2 : w1.cell? ⟨g, o + k * 5 + 2, none⟩ = some (.string l[k].1.name) := (HB1.out.cell (p := ⟨g, o + k * 5 + 2, none⟩) hg).trans HK.out.2.2.1
          have c3 : w1.cell? ⟨g, o + k * 5 + 3, none⟩ = some (.string l[k].1.text) := (HB1.out.cell (p := ⟨g, o + k * 5 + 3, none⟩) hg).trans HK.out.2.2.2.1
          have c4 : w1.cell? ⟨g, o + k * 5 + 4, none⟩ = some (.slice aoA l[k].1.attrs.length capA) := ((HB1.out.cell (p := ⟨g, o + k * 5 + 4, none⟩) hg).trans HK.out.2.2.2.2).trans (by rw [eA])
          have HE := hid hE
          have HA1 : Hid (AttrsIn (.slice aoA l[k].1.attrs.length capA) l[k].1.attrs w1) := hid (eA ▸ HA.out.below HB1.out)
          rw [hE]
          clear hE HK eA HA
          go_wp2_with fail
          refine (misshapen_any l[k].1 (.slice aoA l[k].1.attrs.length capA) HA1 HF (HT.out.below HB1.out)).mono ?_
          rintro e w2 ⟨rfl, hb2⟩
          have HB2 := hid (HB1.out.trans (hb2.mono HB1.out.size))
          have hI : P.itemE (prevO (l.map (·.1)) k) k l[k].1 = P.partsE l[k].1 := by
            unfold P.itemE
            rw [if_neg (by simp [HE.out])]
          clear hb2 c0 c1 c2 c3 c4 HA1
          by_cases hq : P.partsE l[k].1 = 0
          · have HR3 : Hid (P.checkF (prevO (l.map (·.1)) (k + 1)) (k + 1) ((l.map (·.1)).drop (k + 1)) = (a, b)) := hid (by
              have := HR2.out
              rw [hI, hq, if_neg (by simp)] at this
              simpa [prevO, hlt] using this)
            have HP2 : Hid (∀ q (_ : q < l.length), k + 1 = q + 1 → l[q].1.level < 40 ∧ -9223372036854775808 ≤ l[q].1.level) := hid (fun q hq2 e => by
              obtain rfl : q = k := by omega
              exact ⟨(P.item_ok (hI.trans hq)).2.1, HF.out.1.1⟩)
            rw [hq]
            clear hI hq HR2 HE HF
            go_wp2
            go_roundw
            case rel => exact ⟨k + 1, by go_num, by omega, HR3, HP2, HB2⟩
            case measure => (simp [intOf]; try omega)
          · have h2 := HR2.out
            rw [hI, if_pos hq] at h2
            simp only [Prod.mk.injEq] at h2
            obtain ⟨rfl, h3⟩ := h2
            rw [h3] at hq ⊢
            have hq' : (b == 0) = false := beq_eq_false_iff_ne.2 hq
            clear hI hq HR2 HE HF h3
            go_wp2
            go_ret2
            exact ⟨rfl, HB2.out⟩
        · have hI : P.itemE (prevO (l.map (·.1)) k) k l[k].1 = P.placeE (prevO (l.map (·.1)) k) k l[k].1 := by
            unfold P.itemE
            rw [if_pos hE]
          have h2 := HR2.out
          rw [hI, if_pos hE] at h2
          simp only [Prod.mk.injEq] at h2
          obtain ⟨rfl, h3⟩ := h2
          rw [h3] at hE ⊢
          have hq' : (b == 0) = false := beq_eq_false_iff_ne.2 hE
          clear hI hE HR2 HF h3 HK HA eA
          go_wp2
          go_ret2
          exact ⟨rfl, HB1.out⟩
      · have hlt' : ¬ (k : Int) < (l.length : Int) := by omega
        have h2 := HR.out
        rw [List.drop_eq_nil_of_le (by simp; omega)] at h2
        simp only [P.checkF, Prod.mk.injEq] at h2
        obtain ⟨rfl, rfl⟩ := h2
        clear HR HP
        go_wp2
        go_ret2
        exact ⟨rfl, HB.out⟩
end
end Go.Proofs.YtidccohjehegjaaDoor
