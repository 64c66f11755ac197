/- The walks of the document's own Check of layer parse and of what it calls: what is amiss with a row of items is told as the plain function says. -/
import Derived.Test.YtidccohjehegjaaDoorPCheckK
import Derived.Test.YtidccohjehegjaaDoorGRAllK
import Derived.Lib.QuietBelow
import Derived.BigQuiet
namespace Go.Proofs.YtidccohjehegjaaDoor
open Go.RowKit Go.Shelf Go.Sort
/-- What is asked of an item's parts where they come from outside, in the second form. -/
def FitU (x : P.Itm) : Prop := (-9223372036854775808 ≤ x.level ∧ x.level ≤ 9223372036854775807) ∧ (-9223372036854775808 ≤ x.kind ∧ x.kind ≤ 9223372036854775807) ∧ x.name.size ≤ 1048576 ∧ x.text.size ≤ 1048576 ∧ ∀ a ∈ x.attrs, a.1.size ≤ 1048576 ∧ a.2.size ≤ 1048576
theorem FitU.fit {x : P.Itm} (h : FitU x) : FitC x := by
  obtain ⟨h1, h2, h3, h4, h5⟩ := h
  refine ⟨h1, h2, ?_, ?_, fun a ha => ⟨?_, ?_⟩⟩
  · unfold maxLen; omega
  · unfold maxLen; omega
  · have := (h5 a ha).1; unfold maxLen; omega
  · have := (h5 a ha).2; unfold maxLen; omega
theorem P.name_ne' {b : ByteArray} (h : L.nameP b = true) : L.ltB L.noB b = true := by
  unfold L.ltB
  have : b.data.toList ≠ [] := by
    intro q
    unfold L.nameP at h
    rw [q] at h
    revert h
    decide
  cases hb : b.data.toList with
  | nil => exact absurd hb this
  | cons x l => simp [L.noB]
section
variable {w : World}
set_option maxRecDepth 100000 in
set_option maxHeartbeats 1000000 in
theorem rchars_any (s : ByteArray) (hs : s.size ≤ 1048576) : Calls Tryd.prog 67 #[.string s] w fun e w' => e = .returned (.int .i64 (P.unfitE s)) ∧ Below w.heap.size w w' := by
  obtain ⟨c, HC⟩ : ∃ c, Hid (G.countZ s.data.toList = c) := ⟨_, hid rfl⟩
  obtain ⟨r, HR⟩ : ∃ r, Hid (P.unfitE s = r) := ⟨_, hid rfl⟩
  rw [HR.out]
  have HR2 := HR.out
  unfold P.unfitE at HR2
  rw [HC.out] at HR2
  clear HR
  go_enter Tryd.func67, Tryd.ntmps67
  go_wp2_with fail
  refine (rcount_any s c w hs HC).mono ?_
  rintro e w1 ⟨rfl, hb⟩
  have HB := hid hb
  clear hb HC
  by_cases h1 : c < 0
  · rw [if_pos h1] at HR2
    subst HR2
    go_wp2
    go_ret
    exact ⟨rfl, HB.out⟩
  · rw [if_neg h1] at HR2
    by_cases h2 : 1500 < s.size
    · rw [if_pos h2] at HR2
      subst HR2
      have h2' : (1500 : Int) < (s.size : Int) := by omega
      go_wp2
      go_ret
      exact ⟨rfl, HB.out⟩
    · rw [if_neg h2] at HR2
      subst HR2
      have h2' : ¬ (1500 : Int) < (s.size : Int) := by omega
      go_wp2
      go_ret
      exact ⟨rfl, HB.out⟩
/-- The name ahead of an attribute's. -/
def prevN (l : List L.Attr) (q : Nat) : ByteArray := if h : 0 < q ∧ q - 1 < l.length then (l[q - 1]'h.2).1 else L.noB
set_option maxRecDepth 100000 in
set_option maxHeartbeats 8000000 in
theorem rparts_any (x : P.Itm) (v : Value) (I : Hid (AttrsIn v x.attrs w)) (F : Hid (FitU x)) : Calls Tryd.prog 47 #[itmV x v] w fun e w' => e = .returned (.int .i64 (P.partsE x)) ∧ Below w.heap.size w w' := by
  obtain ⟨r, HR⟩ : ∃ r, Hid (P.partsE x = r) := ⟨_, hid rfl⟩
  rw [HR.out]
  obtain ⟨lv, kd, nm, tx, ats⟩ := x
  have HR1 := HR.out
  unfold P.partsE at HR1
  dsimp only at HR1
  clear HR
  obtain ⟨ao, cap, rfl, hl, hc⟩ := I.out
  have HCC := hid hc
  clear hc
  have HB1 : Hid (Below w.heap.size w (w.alloc (.cells #[.int .i64 lv, .int .i64 kd, .string nm, .string tx, .slice ao ats.length cap] 49))) := hid ((Below.refl _ _).alloc (Nat.le_refl _) _)
  have bI : Hid ((w.alloc (.cells #[.int .i64 lv, .int .i64 kd, .string nm, .string tx, .slice ao ats.length cap] 49)).heap[w.heap.size]? = some (.cells #[.int .i64 lv, .int .i64 kd, .string nm, .string tx, .slice ao ats.length cap] 49 (0, 0))) := hid (heap_alloc_new w _)
  dsimp only at *
  unfold itmV
  dsimp only
  go_enter Tryd.func47, Tryd.ntmps47
  by_cases h2 : kd = 2
  · rw [if_pos h2] at HR1
    subst h2
    by_cases hn : nm = L.noB
    · subst hn
      by_cases hA : ats = []
      · subst hA
        rw [if_neg (by simp)] at HR1
        have HR2 := hid HR1
        clear HR1 bI
        unfold L.noB at *
        simp only [List.length_nil] at *
        go_wp2_with fail
        refine (rchars_any tx F.out.2.2.2.1).mono ?_
        rintro e w3 ⟨rfl, hb3⟩
        have HB3 := hid (HB1.out.trans (hb3.mono HB1.out.size))
        clear hb3
        rw [HR2.out]
        go_wp2
        go_ret
        exact ⟨rfl, HB3.out⟩
      · obtain rfl : r = 68 := by rw [← HR1, if_pos (Or.inr hA)]
        have hA' : (0 : Int) < (ats.length : Int) := by have := List.length_pos_iff.2 hA; omega
        clear HR1 hA bI
        unfold L.noB at *
        go_wp2
        go_ret
        exact ⟨rfl, HB1.out⟩
    · obtain rfl : r = 68 := by rw [← HR1, if_pos (Or.inl hn)]
      have hn' := neq_empty nm hn
      clear HR1 hn bI
      go_wp2
      go_ret
      exact ⟨rfl, HB1.out⟩
  · rw [if_neg h2] at HR1
    have h2' : (kd == 2) = false := beq_eq_false_iff_ne.2 h2
    by_cases h1 : kd = 1
    · by_cases hx : tx = L.noB
      · rw [if_neg (by simp [h1, hx])] at HR1
        subst h1 hx
        clear h2 h2'
        unfold L.noB at HB1 bI ⊢
        have HR0 := hid HR1
        clear HR1
        cases hn : L.nameP nm with
        | false =>
          obtain rfl : r = 63 := by rw [← HR0.out, hn]; simp
          have HN : Hid (G.nameB nm.data.toList = false) := hid hn
          clear hn HR0 bI
          go_wp2_with fail
          refine (rname_any nm false _ F.out.2.2.1 HN).mono ?_
          rintro e w2 ⟨rfl, hb2⟩
          have HB3 := hid (HB1.out.trans (hb2.mono HB1.out.size))
          clear hb2
          go_wp2
          go_ret
          exact ⟨rfl, HB3.out⟩
        | true =>
          have HN : Hid (G.nameB nm.data.toList = true) := hid hn
          have HR2 : Hid ((if P.riseF L.noB ats = false then 63 else if 20 < ats.length then 67 else P.valsE ats) = r) := hid (by rw [← HR0.out, hn]; simp)
          clear hn HR0
          go_wp2_with fail
          refine (rname_any nm true _ F.out.2.2.1 HN).mono ?_
          rintro e w2 ⟨rfl, hb2⟩
          have HB3 := hid (HB1.out.trans (hb2.mono HB1.out.size))
          have bI2 := hid ((hb2.block _ (lt_of_block bI.out)).trans bI.out)
          clear hb2 bI HB1
          obtain ⟨rs, HRS⟩ : ∃ rs, Hid (P.riseF L.noB ats = rs) := ⟨_, hid rfl⟩
          have HR3 : Hid ((if rs = false then 63 else if 20 < ats.length then 67 else P.valsE ats) = r) := hid (by rw [← HR2.out, HRS.out])
          clear HR2
          have HRS2 : Hid (P.riseF (prevN ats 0) (ats.drop 0) = rs) := HRS
          clear HRS
          go_wp2
          go_loopw [3] (fun v3 W => ∃ q : Nat, v3 = .int .i64 (q : Int) ∧ q ≤ ats.length ∧ Hid (P.riseF (prevN ats q) (ats.drop q) = rs) ∧ Hid (W.heap[w.heap.size]? = some (.cells #[.int .i64 lv, .int .i64 1, .string nm, .string ⟨#[]⟩, .slice ao ats.length cap] 49 (0, 0))) ∧ Hid (Below w.heap.size w W)) (fun v3 _ => ats.length - (intOf v3).toNat)
          case atStart => exact ⟨0, rfl, by omega, HRS2, bI2, HB3⟩
          case round =>
            clear HRS2 bI2 HB3
            obtain ⟨q, rfl, hq, HRS, HI, HB⟩ := hrel
            have d4 : wr.cell? ⟨w.heap.size, 4, none⟩ = some (.slice ao ats.length cap) := by rw [cell_of_row _ w.heap.size 4 _ _ _ HI.out]; rfl
            by_cases h1 : q < ats.length
            · have h1' : (q : Int) < (ats.length : Int) := by omega
              obtain ⟨g, o, rfl, hg, hc⟩ := HCC.out (by rintro rfl; simp at h1)
              obtain ⟨k0, k1⟩ := hc q h1
              have c0 : wr.cell? ⟨g, o + q * 2, none⟩ = some (.string ats[q].1) := (HB.out.cell (p := ⟨g, o + q * 2, none⟩) hg).trans k0
              have hF := (F.out.2.2.2.2 _ (List.getElem_mem h1)).1
              have HR4 : Hid ((L.nameP ats[q].1 && L.ltB (prevN ats q) ats[q].1 && P.riseF ats[q].1 (ats.drop (q + 1))) = rs) := hid (by rw [← P.rise_cons, ← List.drop_eq_getElem_cons h1]; exact HRS.out)
              have PN : Hid (prevN ats (q + 1) = ats[q].1) := hid (by unfold prevN; rw [dif_pos ⟨by omega, by simpa using h1⟩]; rfl)
              have PC : Hid (∀ p, q = p + 1 → wr.cell? ⟨g, o + p * 2, none⟩ = some (.string (prevN ats q))) := hid (fun p hp => by
                subst hp
                have := (hc p (by omega)).1
                rw [show prevN ats (p + 1) = ats[p].1 by unfold prevN; rw [dif_pos ⟨by omega, by simp; omega⟩]; rfl]
                exact (HB.out.cell (p := ⟨g, o + p * 2, none⟩) hg).trans this)
              clear k0 k1 hc HRS
              have HN1 : Hid (∀ z, G.nameB ats[q].1.data.toList = z → ∀ d os, Calls Tryd.prog 68 #[.string ats[q].1] (grow (redrawn wr d) os) fun e w'' => e = .returned (.bool z) ∧ ∃ p : Regrown, w'' = grow (redrawn wr p.d) p.os) := hid (fun z hz d os => Calls.regrown_of (rname_any ats[q].1 z _ hF (hid hz)))
              generalize ats[q].1 = an at *
              go_wp2
              have D4 := cell_regrown d4
              have C0 := cell_regrown c0
              cases hn : L.nameP an with
              | false =>
                obtain rfl : rs = false := by rw [← HR4.out, hn]; rfl
                obtain rfl : r = 63 := by rw [← HR3.out]; rfl
                have CN := hid (HN1.out false hn)
                clear hn HR4 HN1 PC
                refine wp_region_quiet_below (by kernel_rfl) (by kernel_rfl) ?_
                repeat (first | go_big_quiet_step (exact CN.out _ _) | quiet_step (exact CN.out _ _))
                refine wpQuiet_nil ?_
                rintro _ ⟨⟨dq, osq⟩, rfl⟩
                have HB5 := hid (HB.out.trans ((below_regrown wr dq osq).mono HB.out.size))
                generalize grow (redrawn wr dq) osq = W5 at *
                go_wp2
                go_ret
                exact ⟨rfl, HB5.out⟩
              | true =>
                have CN := hid (HN1.out true hn)
                have HR5 : Hid ((L.ltB (prevN ats q) an && P.riseF an (ats.drop (q + 1))) = rs) := hid (by rw [← HR4.out, hn]; simp)
                have HNE : Hid (L.ltB L.noB an = true) := hid (P.name_ne' hn)
                clear hn HR4 HN1
                rcases Nat.eq_zero_or_pos q with hz | hpos
                · have HR6 : Hid (P.riseF (prevN ats (q + 1)) (ats.drop (q + 1)) = rs) := hid (by
                    have := HR5.out
                    rw [hz] at this
                    rw [show prevN ats 0 = L.noB from rfl, HNE.out] at this
                    rw [PN.out, hz]; simpa using this)
                  have hd : decide ((0 : Int) < (q : Int)) = false := decide_eq_false (by omega)
                  have hd2 : decide (0 < q) = false := decide_eq_false (by omega)
                  clear HR5 HNE PC PN hz
                  refine wp_region_quiet_below (by kernel_rfl) (by kernel_rfl) ?_
                  repeat (first | go_big_quiet_step (exact CN.out _ _) | quiet_step (exact CN.out _ _))
                  refine wpQuiet_nil ?_
                  rintro _ ⟨⟨dq, osq⟩, rfl⟩
                  have HB5 := hid (HB.out.trans ((below_regrown wr dq osq).mono HB.out.size))
                  have HI5 := hid (((below_regrown wr dq osq).block _ (lt_of_block HI.out)).trans HI.out)
                  clear D4 C0 CN
                  generalize grow (redrawn wr dq) osq = W5 at *
                  go_wp2
                  go_roundw
                  case rel => exact ⟨q + 1, by go_num, by omega, HR6, HI5, HB5⟩
                  case measure => (simp [intOf]; try omega)
                · obtain ⟨p, rfl⟩ : ∃ p, q = p + 1 := ⟨q - 1, by omega⟩
                  have E0 := cell_regrown (PC.out p rfl)
                  generalize prevN ats (p + 1) = pn at *
                  have lq := leq_eq an pn
                  have hp1 : (p : Int) < (ats.length : Int) := by omega
                  have hd : decide ((0 : Int) < ((p + 1 : Nat) : Int)) = true := decide_eq_true (by omega)
                  have hd' : decide ((0 : Int) < (p : Int) + 1) = true := decide_eq_true (by omega)
                  clear PC HNE
                  cases hlt : L.ltB pn an with
                  | false =>
                    obtain rfl : rs = false := by rw [← HR5.out, hlt]; rfl
                    obtain rfl : r = 63 := by rw [← HR3.out]; rfl
                    rw [hlt] at lq
                    simp only [Bool.not_false] at lq
                    clear HR5 hlt
                    refine wp_region_quiet_below (by kernel_rfl) (by kernel_rfl) ?_
                    repeat (first | go_big_quiet_step (exact CN.out _ _) | quiet_step (exact CN.out _ _))
                    refine wpQuiet_nil ?_
                    rintro _ ⟨⟨dq, osq⟩, rfl⟩
                    have HB5 := hid (HB.out.trans ((below_regrown wr dq osq).mono HB.out.size))
                    clear D4 C0 CN E0
                    generalize grow (redrawn wr dq) osq = W5 at *
                    go_wp2
                    go_ret
                    exact ⟨rfl, HB5.out⟩
                  | true =>
                    have HR6 : Hid (P.riseF (prevN ats (p + 1 + 1)) (ats.drop (p + 1 + 1)) = rs) := hid (by rw [PN.out, ← HR5.out, hlt]; simp)
                    rw [hlt] at lq
                    simp only [Bool.not_true] at lq
                    clear HR5 hlt PN
                    refine wp_region_quiet_below (by kernel_rfl) (by kernel_rfl) ?_
                    repeat (first | go_big_quiet_step (exact CN.out _ _) | quiet_step (exact CN.out _ _))
                    refine wpQuiet_nil ?_
                    rintro _ ⟨⟨dq, osq⟩, rfl⟩
                    have HB5 := hid (HB.out.trans ((below_regrown wr dq osq).mono HB.out.size))
                    have HI5 := hid (((below_regrown wr dq osq).block _ (lt_of_block HI.out)).trans HI.out)
                    clear D4 C0 CN E0 lq
                    generalize grow (redrawn wr dq) osq = W5 at *
                    go_wp2
                    go_roundw
                    case rel => exact ⟨p + 1 + 1, by go_num, by omega, HR6, HI5, HB5⟩
                    case measure => (simp [intOf]; try omega)
            · have h1' : ¬ (q : Int) < (ats.length : Int) := by omega
              obtain rfl : rs = true := by rw [← HRS.out, List.drop_eq_nil_of_le (by omega)]; rfl
              have HR4 : Hid ((if 20 < ats.length then 67 else P.valsE ats) = r) := hid (by rw [← HR3.out]; simp)
              clear HRS HR3
              by_cases h20 : 20 < ats.length
              · obtain rfl : r = 67 := by rw [← HR4.out, if_pos h20]
                have h20' : (20 : Int) < (ats.length : Int) := by omega
                clear HR4 HCC
                go_wp2
                go_ret
                exact ⟨rfl, HB.out⟩
              · have h20' : ¬ (20 : Int) < (ats.length : Int) := by omega
                have HR5 : Hid (P.valsE (ats.drop 0) = r) := hid (by rw [← HR4.out, if_neg h20]; rfl)
                clear HR4
                go_wp2
                go_loopw [4] (fun v4 W => ∃ q : Nat, v4 = .int .i64 (q : Int) ∧ q ≤ ats.length ∧ Hid (P.valsE (ats.drop q) = r) ∧ Hid (W.heap[w.heap.size]? = some (.cells #[.int .i64 lv, .int .i64 1, .string nm, .string ⟨#[]⟩, .slice ao ats.length cap] 49 (0, 0))) ∧ Hid (Below w.heap.size w W)) (fun v4 _ => ats.length - (intOf v4).toNat)
                case atStart => exact ⟨0, rfl, by omega, HR5, HI, HB⟩
                case round =>
                  clear HR5 HI HB d4 h1 h1' hq
                  obtain ⟨q, rfl, hq, HR, HI, HB⟩ := hrel
                  have d4 : wr.cell? ⟨w.heap.size, 4, none⟩ = some (.slice ao ats.length cap) := by rw [cell_of_row _ w.heap.size 4 _ _ _ HI.out]; rfl
                  by_cases h1 : q < ats.length
                  · have h1' : (q : Int) < (ats.length : Int) := by omega
                    obtain ⟨g, o, rfl, hg, hc⟩ := HCC.out (by rintro rfl; simp at h1)
                    obtain ⟨k0, k1⟩ := hc q h1
                    have c1 : wr.cell? ⟨g, o + q * 2 + 1, none⟩ = some (.string ats[q].2) := (HB.out.cell (p := ⟨g, o + q * 2 + 1, none⟩) hg).trans k1
                    have hF2 := (F.out.2.2.2.2 _ (List.getElem_mem h1)).2
                    have HR2 : Hid ((if P.unfitE ats[q].2 ≠ 0 then P.unfitE ats[q].2 else P.valsE (ats.drop (q + 1))) = r) := hid (by rw [← P.vals_cons, ← List.drop_eq_getElem_cons h1]; exact HR.out)
                    clear k0 k1 hc HR
                    generalize ats[q].2 = av at *
                    go_wp2_with fail
                    refine (rchars_any av hF2).mono ?_
                    rintro e w5 ⟨rfl, hb5⟩
                    have HB5 := hid (HB.out.trans (hb5.mono HB.out.size))
                    have HI5 := hid ((hb5.block _ (lt_of_block HI.out)).trans HI.out)
                    clear hb5 HB HI
                    by_cases hu : P.unfitE av = 0
                    · have HR3 : Hid (P.valsE (ats.drop (q + 1)) = r) := hid (by rw [← HR2.out, if_neg (by simp [hu])])
                      rw [hu]
                      clear hu HR2
                      go_wp2
                      go_roundw
                      case rel => exact ⟨q + 1, by go_num, by omega, HR3, HI5, HB5⟩
                      case measure => (simp [intOf]; try omega)
                    · have hE : P.unfitE av = r := by rw [← HR2.out, if_pos hu]
                      rw [hE] at hu ⊢
                      have hu' : (r == 0) = false := beq_eq_false_iff_ne.2 hu
                      clear hu hE HR2
                      go_wp2
                      go_ret
                      exact ⟨rfl, HB5.out⟩
                  · have h1' : ¬ (q : Int) < (ats.length : Int) := by omega
                    obtain rfl : r = 0 := by rw [← HR.out, List.drop_eq_nil_of_le (by omega)]; rfl
                    clear HR
                    go_wp2
                    go_ret
                    exact ⟨rfl, HB.out⟩
      · obtain rfl : r = 68 := by rw [← HR1, if_pos (Or.inr hx)]
        have hx' := neq_empty tx hx
        subst h1
        clear HR1 hx h2 h2' bI
        go_wp2
        go_ret
        exact ⟨rfl, HB1.out⟩
    · obtain rfl : r = 68 := by rw [← HR1, if_pos (Or.inl h1)]
      have h1' : (kd == 1) = false := beq_eq_false_iff_ne.2 h1
      have h1'' : (kd != 1) = true := by simpa using h1
      clear HR1 h1 h2 bI
      go_wp2
      go_ret
      exact ⟨rfl, HB1.out⟩
end
end Go.Proofs.YtidccohjehegjaaDoor
