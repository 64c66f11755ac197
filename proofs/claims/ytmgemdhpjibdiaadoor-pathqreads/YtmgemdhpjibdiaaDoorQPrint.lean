/- The walk of pathq.Print. -/
import Derived.Test.YtmgemdhpjibdiaaDoorQW3
import Derived.Lib.OthersKept
import Derived.Deep.RegionHeld3
namespace Go.Proofs.YtmgemdhpjibdiaaDoor
open Go.RowKit Go.Shelf Go.Sort
theorem predW_len (p : Q.Pred) (hp : Q.rightP p) (hn : p.name.size ≤ 1048576) (hv : p.value.size ≤ 1048576) : (Q.predW p).length ≤ 7500000 := by
  unfold Q.predW
  unfold Q.rightP at hp
  rcases hp with ⟨h, h1, h2, _⟩ | ⟨h, _⟩ | ⟨h, _⟩ | ⟨h, _, _, hc⟩ | ⟨h, _, _, hc⟩
  · rw [if_pos h]
    have := digitsL_len p.num h1 h2
    omega
  · rw [h]; simp; decide
  · rw [h]; simp; omega
  · have := (ev_some hc).2
    rw [h]; simp; omega
  · have := (ev_some hc).2
    rw [h]; simp [Q.textW]; omega
theorem axisW_len (a : Int) (h1 : 1 ≤ a) (h2 : a ≤ 8) : (Q.axisW a).length ≤ 20 := by
  rcases Q.axis_all h1 h2 with rfl | rfl | rfl | rfl | rfl | rfl | rfl | rfl <;> decide
theorem testW_len (t : Int) : (Q.testW t).length ≤ 6 := by
  unfold Q.testW
  split
  · decide
  · split
    · decide
    · split <;> decide
theorem len_size (b : ByteArray) : b.data.toList.length = b.size := by simp
theorem builder_lt {T e : TypeId} {B b : Nat} {bs : List Value} {w : World} (h : Lib.IsBuilderF T e B b bs w) : b < w.heap.size := by
  rcases h with ⟨_, v, hb, _⟩ | ⟨_, v, hb, _⟩
  · exact lt_of_block hb
  · exact lt_of_block hb
set_option maxRecDepth 100000 in
set_option maxHeartbeats 8000000 in
theorem print_any (V : Value) (l : List SV) (w : World) (ht : TabQ w) (I : Hid (StepsIn V l w)) (F : Hid (∀ x ∈ l, FitS 1048576 x.1)) (r : Bool) (HR : Hid (Q.rightLB (l.map (·.1)) = r)) (s : ByteArray) (HS : Hid (r = true → Q.stepsW (l.map (·.1)) = s.data.toList)) :
    Calls Tryd.prog 39 #[V] w fun e w' => e = .returned (.tuple #[.string (if r = true then s else L.noB), .bool r]) ∧ Below w.heap.size w w' := by
  have HT := hid ht
  clear ht
  have HF2 : Hid (∀ x ∈ l, FitS maxLen x.1) := hid (fun x hx => ⟨Nat.le_trans (F.out x hx).1 (by unfold maxLen; decide), fun p hp => ⟨Nat.le_trans ((F.out x hx).2 p hp).1 (by unfold maxLen; decide), Nat.le_trans ((F.out x hx).2 p hp).2 (by unfold maxLen; decide)⟩⟩)
  obtain ⟨ao, cap, rfl, hlen, hc⟩ := I.out.1
  have HC := hid hc
  clear hc
  cases r with
  | false =>
    go_enter Tryd.func39, Tryd.ntmps39
    go_wp2_with fail
    refine Calls.mono (right_any _ l w HT.out.st I HF2 false HR) ?_
    rintro e w1 ⟨rfl, hb⟩
    have HB := hid hb
    clear hb
    go_wp2
    go_ret2
    exact ⟨rfl, HB.out⟩
  | true =>
    have hr := (Q.rightL_B _).1 HR.out
    rw [List.length_map] at hr
    obtain ⟨hl1, hl20, hrs⟩ := hr
    have HRS : Hid (∀ x ∈ l, Q.rightS x.1) := hid (fun x hx => hrs x.1 (List.mem_map_of_mem hx))
    have HS2 : Hid ([] ++ Q.stepsW ((l.drop 0).map (·.1)) = s.data.toList) := hid (by simpa using HS.out rfl)
    clear hrs HS
    go_enter Tryd.func39, Tryd.ntmps39
    go_wp2_with fail
    refine Calls.mono (right_any _ l w HT.out.st I HF2 true HR) ?_
    rintro e w1 ⟨rfl, hb⟩
    have HI1 := hid (I.out.below hb)
    have HT1 := hid (HT.out.below hb)
    have HB1 := hid hb
    clear hb HR HF2
    have HC1 : Hid (l ≠ [] → ∃ g o, ao = some ⟨g, o, none⟩ ∧ g < w1.heap.size ∧ ∀ j (h : j < l.length), w1.cell? ⟨g, o + j * 4, none⟩ = some (.int .i64 l[j].1.axis) ∧ w1.cell? ⟨g, o + j * 4 + 1, none⟩ = some (.int .i64 l[j].1.test) ∧ w1.cell? ⟨g, o + j * 4 + 2, none⟩ = some (.string l[j].1.name) ∧ w1.cell? ⟨g, o + j * 4 + 3, none⟩ = some l[j].2) := hid (by
      obtain ⟨ao', cap', h1, _, h3⟩ := HI1.out.1
      simp only [Value.slice.injEq, true_and] at h1
      rw [h1.1]
      exact h3)
    clear HC
    go_wp2
    go_loopw [14] (fun v14 W => ∃ (j : Nat) (acc : List UInt8), v14 = .int .i64 (j : Int) ∧ j ≤ l.length ∧ acc.length ≤ j * 40000000 ∧ Hid (acc ++ Q.stepsW ((l.drop j).map (·.1)) = s.data.toList) ∧ Hid (Lib.IsBuilderF 114 5 w1.heap.size w1.heap.size (Lib.byteCells acc) W) ∧ Hid (Below w1.heap.size w1 W)) (fun v14 _ => l.length - (intOf v14).toNat)
    case atStart => exact ⟨0, [], rfl, by omega, by simp, HS2, hid (Lib.IsBuilderF.of (Lib.fresh_isBuilder _ _ w1)), hid ((Below.refl _ _).alloc (Nat.le_refl _) _)⟩
    case round =>
      clear HS2
      obtain ⟨j, acc, rfl, hj, hacc, HSJ, HBU, HB⟩ := hrel
      by_cases hlt : j < l.length
      · have hlt' : (j : Int) < (l.length : Int) := by omega
        obtain ⟨g, o, rfl, hg, hcc⟩ := HC1.out (by rintro rfl; simp at hlt)
        obtain ⟨k0, k1, k2, k3⟩ := hcc j hlt
        have c0 := (HB.out.cell (p := ⟨g, o + j * 4, none⟩) hg).trans k0
        have c1 := (HB.out.cell (p := ⟨g, o + j * 4 + 1, none⟩) hg).trans k1
        have c2 := (HB.out.cell (p := ⟨g, o + j * 4 + 2, none⟩) hg).trans k2
        have c3 := (HB.out.cell (p := ⟨g, o + j * 4 + 3, none⟩) hg).trans k3
        have hF := F.out _ (List.getElem_mem hlt)
        have hP := (HI1.out.2 _ (List.getElem_mem hlt))
        have hR := HRS.out _ (List.getElem_mem hlt)
        have hsj := HSJ.out
        rw [List.drop_eq_getElem_cons hlt, List.map_cons] at hsj
        unfold Q.stepsW at hsj
        have HPJ : Hid (l[j] = l[j]) := hid rfl
        generalize l[j] = p at *
        obtain ⟨⟨ax, te, nm, ps⟩, v⟩ := p
        simp only at c0 c1 c2 c3 hF hP hR hsj
        have HF := hid hF
        have HP := hid hP
        have HRR := hid hR
        obtain ⟨⟨ha1, ha2⟩, ht14, hps5, _⟩ := hR
        obtain ⟨aoP, capP, rfl, hpl, hpc⟩ := hP
        have ht1 : 1 ≤ te ∧ te ≤ 4 := by rcases ht14 with ⟨h, _⟩ | ⟨h, _⟩ <;> simp only at h <;> omega
        replace ha1 : 1 ≤ ax := ha1
        replace ha2 : ax ≤ 8 := ha2
        replace hps5 : ps.length ≤ 5 := hps5
        have hax := axisW_len ax ha1 ha2
        have hte := testW_len te
        clear k0 k1 k2 k3 hcc hF HPJ ht14
        obtain ⟨ax, rfl⟩ : ∃ q : Nat, ax = (q : Int) := ⟨ax.toNat, by omega⟩
        obtain ⟨te, rfl⟩ : ∃ q : Nat, te = (q : Int) := ⟨te.toNat, by omega⟩
        have ax8 : ax < 9 := by omega
        have te4 : te < 5 := by omega
        have hB0 := HB.out.alloc HB.out.size (stepObj ax te nm (.slice aoP ps.length capP))
        have HAX : Hid (∀ w' : World, Below w1.heap.size w1 w' → w'.cell? ⟨0, ax, none⟩ = some (.string (S.bA (Q.axisW ax)))) := hid (fun w' h => (HT1.out.below h).ax ax ax8)
        have HTE : Hid (∀ w' : World, Below w1.heap.size w1 w' → w'.cell? ⟨1, te, none⟩ = some (.string (S.bA (Q.testW te)))) := hid (fun w' h => (HT1.out.below h).te te te4)
        have a0 := (HT1.out.below hB0).ax ax ax8
        have t0 := (HT1.out.below hB0).te te te4
        have HIB : Hid (Lib.IsBuilderF 114 5 w1.heap.size w1.heap.size (Lib.byteCells acc) ((wr.alloc (stepObj ax te nm (.slice aoP ps.length capP))).drew)) := hid (bld_below HBU.out (by
          have h := (Below.refl wr.heap.size wr).alloc (Nat.le_refl _) (stepObj ax te nm (.slice aoP ps.length capP))
          exact ⟨h.os, h.tape, h.output, h.size, h.block⟩))
        have HB2 : Hid (Below w1.heap.size w1 ((wr.alloc (stepObj ax te nm (.slice aoP ps.length capP))).drew)) := hid ⟨hB0.os, hB0.tape, hB0.output, hB0.size, hB0.block⟩
        have HC0 : Hid ((wr.alloc (stepObj ax te nm (.slice aoP ps.length capP))).heap[wr.heap.size]? = some (stepObj ax te nm (.slice aoP ps.length capP))) := hid (heap_alloc_new wr _)
        have hwb : wr.heap.size ≠ w1.heap.size := by
          intro e
          have := HBU.out
          have h2 := builder_lt this
          omega
        have sA : (S.bA (Q.axisW ax)).size ≤ 20 := by rw [S.bA_size]; exact hax
        have sT : (S.bA (Q.testW te)).size ≤ 6 := by rw [S.bA_size]; exact hte
        have sN : nm.size ≤ 1048576 := HF.out.1
        have HJ1 : Hid ((acc ++ ((⟨#[47]⟩ ++ S.bA (Q.axisW ax)) ++ S.bA (Q.testW te) ++ nm : ByteArray).data.toList) ++ (Q.predsW (ps.drop 0) ++ Q.stepsW ((l.drop (j + 1)).map (·.1))) = s.data.toList) := hid (by
          rw [← hsj, L.app_list, L.app_list, L.app_list]
          unfold Q.stepW
          simp only [bA_self', List.drop_zero, List.append_assoc])
        clear hsj HSJ hB0 hax hte HBU HB
        go_wp2
        show Code.wp _ _ _ _ (wr.alloc (stepObj ax te nm (.slice aoP ps.length capP)))
        generalize (wr.alloc (stepObj ax te nm (.slice aoP ps.length capP))) = W1 at *
        generalize wr.heap.size = c at *
        generalize S.bA (Q.axisW ax) = aw at *
        generalize S.bA (Q.testW te) = tw at *
        obtain ⟨d0, d1, d2, d3⟩ := step_cells HC0.out
        have slash1 : (⟨#[47]⟩ : ByteArray).size = 1 := rfl
        have sz1 : (⟨#[47]⟩ ++ aw : ByteArray).size ≤ 21 := by rw [ByteArray.size_append, slash1]; omega
        have sz2 : ((⟨#[47]⟩ ++ aw) ++ tw : ByteArray).size ≤ 27 := by rw [ByteArray.size_append]; omega
        have z1 : ¬ (9223372036854775807 < 1 + aw.size) := by omega
        have z2 : ¬ (9223372036854775807 < 1 + aw.size + tw.size) := by omega
        have z3 : ¬ (9223372036854775807 < 1 + aw.size + tw.size + nm.size) := by omega
        have ax0' : (0 : Int) ≤ (ax : Int) := by omega
        have ax8' : (ax : Int) < 9 := by omega
        have te0' : (0 : Int) ≤ (te : Int) := by omega
        have te4' : (te : Int) < 5 := by omega
        have HSZ : Hid ((((⟨#[47]⟩ ++ aw) ++ tw) ++ nm : ByteArray).size ≤ 1048603) := hid (by rw [ByteArray.size_append, ByteArray.size_append, ByteArray.size_append, slash1]; omega)
        go_region_held3 (fun w' => w'.cell? ⟨c, 0, none⟩ = some (.int .i64 (ax : Int)) ∧ w'.cell? ⟨c, 1, none⟩ = some (.int .i64 (te : Int)) ∧ w'.cell? ⟨c, 2, none⟩ = some (.string nm) ∧ w'.cell? ⟨0, ax, none⟩ = some (.string aw) ∧ w'.cell? ⟨1, te, none⟩ = some (.string tw)) ((first | exact ⟨d0, d1, d2, a0, t0⟩ | exact KS.out)) (first
          | (go_at_call 66
             refine (writes_any w1.heap.size w1.heap.size _ _ _ HIB.out (by rw [Lib.byteCells_length]; have := HSZ.out; omega) HB2.out.size).mono ?_
             rintro e w3 ⟨rfl, h3, b3, ok3⟩
             have hc3 := ok3 c (stepObj ax te nm (.slice aoP ps.length capP)) HC0.out (fun e => hwb (Option.some.inj e)) (fun c fz e => by cases e)
             have HC3 := hid hc3
             have HB3 := hid (HB2.out.trans b3)
             have KS := hid (And.intro (step_cells hc3).1 (And.intro (step_cells hc3).2.1 (And.intro (step_cells hc3).2.2.1 (And.intro (HAX.out _ HB3.out) (HTE.out _ HB3.out)))))
             have HI3 : Hid (Lib.IsBuilderF 114 5 w1.heap.size w1.heap.size (Lib.byteCells (acc ++ ((⟨#[47]⟩ ++ aw) ++ tw ++ nm : ByteArray).data.toList)) w3) := hid (by rw [Lib.byteCells_append]; exact Or.inr h3)
             clear h3 b3 ok3 hc3))
        all_goals
          obtain ⟨acc1, HA1⟩ : ∃ a, Hid (a = acc ++ ((⟨#[47]⟩ ++ aw) ++ tw ++ nm : ByteArray).data.toList) := ⟨_, hid rfl⟩
          have hacc1 : acc1.length ≤ j * 40000000 + 1048603 := by
            have h1 := HSZ.out
            have h2 : ((((⟨#[47]⟩ ++ aw) ++ tw) ++ nm : ByteArray).data.toList).length = (((⟨#[47]⟩ ++ aw) ++ tw) ++ nm : ByteArray).size := len_size _
            rw [HA1.out, List.length_append, h2]
            omega
          have HI4 : Hid (Lib.IsBuilderF 114 5 w1.heap.size w1.heap.size (Lib.byteCells acc1) w3) := hid (by rw [HA1.out]; exact HI3.out)
          have HJ2 : Hid (acc1 ++ (Q.predsW (ps.drop 0) ++ Q.stepsW ((l.drop (j + 1)).map (·.1))) = s.data.toList) := hid (by rw [HA1.out]; exact HJ1.out)
          obtain ⟨e0, e1, e2, e3⟩ := step_cells HC3.out
          clear HA1 HI3 HJ1 KS HC3 HAX HTE HIB HB2 HC0 d0 d1 d2 d3 a0 t0 HSZ sz1 sz2 sA sT sN
          go_wp2
          go_loopw [35] (fun v35 W => ∃ (k : Nat) (acc2 : List UInt8), v35 = .int .i64 (k : Int) ∧ k ≤ ps.length ∧ acc2.length ≤ j * 40000000 + 1048603 + k * 7500010 ∧ Hid (acc2 ++ (Q.predsW (ps.drop k) ++ Q.stepsW ((l.drop (j + 1)).map (·.1))) = s.data.toList) ∧ Hid (Lib.IsBuilderF 114 5 w1.heap.size w1.heap.size (Lib.byteCells acc2) W) ∧ Hid (Below w1.heap.size w1 W)) (fun v35 _ => ps.length - (intOf v35).toNat)
          case atStart => exact ⟨0, acc1, rfl, by omega, by omega, HJ2, HI4, HB3⟩
          case round =>
            clear HI4 HJ2 HB3 e0 e1 e2 e3
            obtain ⟨k, acc2, rfl, hk, hacc2, HJK, HIK, HBK⟩ := hrel
            by_cases hkl : k < ps.length
            · have hkl' : (k : Int) < (ps.length : Int) := by omega
              obtain ⟨g2, o2, rfl, hg2, hcc⟩ := hpc (by rintro rfl; simp at hkl)
              obtain ⟨k0, k1, k2, k3⟩ := hcc k hkl
              have c0 := (HBK.out.cell (p := ⟨g2, o2 + k * 4, none⟩) hg2).trans k0
              have c1 := (HBK.out.cell (p := ⟨g2, o2 + k * 4 + 1, none⟩) hg2).trans k1
              have c2 := (HBK.out.cell (p := ⟨g2, o2 + k * 4 + 2, none⟩) hg2).trans k2
              have c3 := (HBK.out.cell (p := ⟨g2, o2 + k * 4 + 3, none⟩) hg2).trans k3
              have hFp := HF.out.2 _ (List.getElem_mem hkl)
              have hRp := HRR.out.2.2.2 _ (List.getElem_mem hkl)
              have hjk := HJK.out
              rw [List.drop_eq_getElem_cons hkl] at hjk
              unfold Q.predsW at hjk
              have HPJ : Hid (ps[k] = ps[k]) := hid rfl
              generalize ps[k] = p at *
              obtain ⟨kd, nn, pn, pv⟩ := p
              simp only at c0 c1 c2 c3 hFp
              have hlen2 := predW_len ⟨kd, nn, pn, pv⟩ hRp hFp.1 hFp.2
              obtain ⟨sp, HSP⟩ : ∃ sp : ByteArray, Hid (Q.predW ⟨kd, nn, pn, pv⟩ = sp.data.toList) := ⟨⟨(Q.predW ⟨kd, nn, pn, pv⟩).toArray⟩, hid rfl⟩
              have hsp : sp.size ≤ 7500000 := by
                have : (Q.predW ⟨kd, nn, pn, pv⟩).length = sp.size := by rw [HSP.out]; simp
                omega
              have HJ3 : Hid ((acc2 ++ ((⟨#[91]⟩ ++ sp) ++ ⟨#[93]⟩ : ByteArray).data.toList) ++ (Q.predsW (ps.drop (k + 1)) ++ Q.stepsW ((l.drop (j + 1)).map (·.1))) = s.data.toList) := hid (by
                rw [← hjk, L.app_list, L.app_list, ← HSP.out]
                simp)
              have HFp := hid hFp
              have HRp := hid hRp
              clear k0 k1 k2 k3 hcc hFp hRp HPJ hjk HJK hlen2
              have hB1 := HBK.out.alloc HBK.out.size (predObj ⟨kd, nn, pn, pv⟩)
              have HT2 := hid (HT1.out.below hB1)
              have HBK2 := hid hB1
              have HIK2 := hid (bld_below HIK.out ((Below.refl wr.heap.size wr).alloc (Nat.le_refl _) (predObj ⟨kd, nn, pn, pv⟩)))
              clear hB1 HBK HIK
              go_wp2_with fail
              refine Calls.mono (inside_any ⟨kd, nn, pn, pv⟩ HRp.out _ HT2.out HFp.out.1 HFp.out.2 sp HSP) ?_
              rintro e w5 ⟨rfl, hb⟩
              have HIK3 := hid (bld_below HIK2.out hb)
              have HBK3 := hid (HBK2.out.trans (hb.mono HBK2.out.size))
              clear hb HIK2 HBK2 HT2
              have br1 : (⟨#[91]⟩ : ByteArray).size = 1 := rfl
              have br2 : (⟨#[93]⟩ : ByteArray).size = 1 := rfl
              have sz1 : (⟨#[91]⟩ ++ sp : ByteArray).size ≤ 7500001 := by rw [ByteArray.size_append, br1]; omega
              have HSZ2 : Hid (((⟨#[91]⟩ ++ sp) ++ ⟨#[93]⟩ : ByteArray).size ≤ 7500002) := hid (by rw [ByteArray.size_append, br2]; omega)
              go_wp2_with fail
              refine (writes_any w1.heap.size w1.heap.size _ _ _ HIK3.out (by rw [Lib.byteCells_length]; have := HSZ2.out; omega) HBK3.out.size).mono ?_
              rintro e w6 ⟨rfl, h3, b3, _⟩
              have HB6 := hid (HBK3.out.trans b3)
              have HI6 : Hid (Lib.IsBuilderF 114 5 w1.heap.size w1.heap.size (Lib.byteCells (acc2 ++ ((⟨#[91]⟩ ++ sp) ++ ⟨#[93]⟩ : ByteArray).data.toList)) w6) := hid (by rw [Lib.byteCells_append]; exact Or.inr h3)
              have hl6 : (acc2 ++ ((⟨#[91]⟩ ++ sp) ++ ⟨#[93]⟩ : ByteArray).data.toList).length ≤ j * 40000000 + 1048603 + (k + 1) * 7500010 := by
                have h1 := HSZ2.out
                have h2 : (((⟨#[91]⟩ ++ sp) ++ ⟨#[93]⟩ : ByteArray).data.toList).length = ((⟨#[91]⟩ ++ sp) ++ ⟨#[93]⟩ : ByteArray).size := len_size _
                rw [List.length_append, h2]
                omega
              clear h3 b3
              go_wp2
              go_roundw
              case rel => exact ⟨k + 1, _, by go_num, by omega, hl6, HJ3, HI6, HB6⟩
              case measure => (simp [intOf]; try omega)
            · have hkl' : ¬ (k : Int) < (ps.length : Int) := by omega
              have hkk : k = ps.length := by omega
              have HJ3 : Hid (acc2 ++ Q.stepsW ((l.drop (j + 1)).map (·.1)) = s.data.toList) := hid (by
                rw [← HJK.out, List.drop_eq_nil_of_le (by omega : ps.length ≤ k)]
                simp [Q.predsW])
              have hl7 : acc2.length ≤ (j + 1) * 40000000 := by omega
              clear HJK
              go_wp2
              go_roundw
              case rel => exact ⟨j + 1, acc2, by go_num, by omega, hl7, HJ3, HIK, HBK⟩
              case measure => (simp [intOf]; try omega)
      · have hlt' : ¬ (j : Int) < (l.length : Int) := by omega
        have HE : Hid (acc = s.data.toList) := hid (by rw [← HSJ.out, List.drop_eq_nil_of_le (by omega)]; simp [Q.stepsW])
        have E1 : Hid (⟨acc.toArray⟩ = s) := hid (WideShapes.bytes_inj HE.out)
        clear HSJ HE
        go_wp2_with fail
        refine (string_any w1.heap.size w1.heap.size acc _ HBU.out HB.out.size).mono ?_
        rintro e w2 ⟨rfl, _, b1, _⟩
        rw [E1.out]
        have HBE := hid (HB1.out.trans ((HB.out.trans b1).mono HB1.out.size))
        clear b1
        go_wp2
        go_ret2
        exact ⟨rfl, HBE.out⟩
end Go.Proofs.YtmgemdhpjibdiaaDoor
