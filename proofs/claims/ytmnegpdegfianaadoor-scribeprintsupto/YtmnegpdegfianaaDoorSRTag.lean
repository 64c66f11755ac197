/- The walk of the document's own tag: an element's beginning, without its end. -/
import Derived.Test.YtmnegpdegfianaaDoorS3
import Derived.Test.YtmnegpdegfianaaDoorERUndo
namespace Go.Proofs.YtmnegpdegfianaaDoor
open Go.RowKit Go.Shelf
set_option maxRecDepth 100000 in
set_option maxHeartbeats 4000000 in
theorem rtag_any (x : P.Itm) (v : Value) (r : ByteArray) (w : World) (I : Hid (AttrsIn v x.attrs w)) (hv : Hid (∀ a ∈ x.attrs, a.2.size ≤ 1048576)) (hlen : r.size ≤ 140737488355328) (HR : Hid (S.tagL x.name (S.evs x.attrs) = r.data.toList)) :
    Calls Tryd.prog 36 #[itmV x v] w fun e w' => e = .returned (.string r) ∧ Below w.heap.size w w' := by
  obtain ⟨lv, kd, nm, tx, ats⟩ := x
  dsimp only at *
  obtain ⟨ao, cap, rfl, hl, hc⟩ := I.out
  have HCC := hid hc
  clear hc I
  unfold itmV
  dsimp only
  have HLN : Hid (∀ q, (S.tagL nm (S.evs (ats.take q))).length ≤ 140737488355328) := hid (fun q => by
    have h1 : (S.attsL (S.evs (ats.take q))).length ≤ (S.attsL (S.evs ats)).length := by
      rcases Nat.lt_or_ge q ats.length with h | h
      · have := S.atts_le ats q h
        rw [List.length_append] at this
        omega
      · rw [List.take_of_length_le h]; exact Nat.le_refl _
    have h2 := congrArg List.length HR.out
    simp only [S.tagL, List.length_append, Array.length_toList, ByteArray.size_data] at h2 ⊢
    omega)
  have hA := below_new w (.cells #[.int .i64 lv, .int .i64 kd, .string nm, .string tx, .slice ao ats.length cap] 32)
  have oI := heap_alloc_new w (.cells #[.int .i64 lv, .int .i64 kd, .string nm, .string tx, .slice ao ats.length cap] 32)
  have HA := hid hA
  have OI := hid oI
  have hnm : 1 + nm.size ≤ 9223372036854775807 := by
    have := HLN.out 0
    simp only [S.tagL, List.length_append, Array.length_toList, ByteArray.size_data, List.length_cons, List.length_nil] at this
    omega
  have hnm2 : 1 + nm.size ≤ maxLen := by unfold maxLen; omega
  clear hA oI
  go_enter Tryd.func36, Tryd.ntmps36
  go_wp2
  go_loopw [3, 4, 5, 6] (fun v3 v4 _ _ X => ∃ (q : Nat) (s : ByteArray), v3 = .string s ∧ v4 = .int .i64 (q : Int) ∧ q ≤ ats.length ∧ Hid (s.data.toList = S.tagL nm (S.evs (ats.take q))) ∧ Hid (Below (w.heap.size + 1) (w.alloc (.cells #[.int .i64 lv, .int .i64 kd, .string nm, .string tx, .slice ao ats.length cap] 32)) X)) (fun _ v4 _ _ _ => ats.length - (intOf v4).toNat)
  case atStart => exact ⟨0, _, rfl, rfl, by omega, hid (by simp [S.tagL, S.evs, S.attsL]), hid (Below.refl _ _)⟩
  case round =>
    obtain ⟨q, s, rfl, rfl, hq, HSS, HB⟩ := hrel
    have HBw : Hid (Below w.heap.size w wr) := hid (HA.out.trans (HB.out.mono (by omega)))
    have o4 : wr.heap[w.heap.size]? = some (.cells #[.int .i64 lv, .int .i64 kd, .string nm, .string tx, .slice ao ats.length cap] 32 (0, 0)) := (HB.out.block w.heap.size (by omega)).trans OI.out
    have z4 : wr.cell? ⟨w.heap.size, 4, none⟩ = some (.slice ao ats.length cap) := by rw [Lib.cell_of_heap o4]; rfl
    have O4 := hid o4
    clear o4
    by_cases h1 : q < ats.length
    · have h1' : (q : Int) < (ats.length : Int) := by omega
      obtain ⟨g, o, rfl, hg, hc⟩ := HCC.out (by rintro rfl; simp at h1)
      obtain ⟨k0, k1⟩ := hc q h1
      have c0 : wr.cell? ⟨g, o + q * 2, none⟩ = some (.string ats[q].1) := (HBw.out.cell (p := ⟨g, o + q * 2, none⟩) hg).trans k0
      have c1 : wr.cell? ⟨g, o + q * 2 + 1, none⟩ = some (.string ats[q].2) := (HBw.out.cell (p := ⟨g, o + q * 2 + 1, none⟩) hg).trans k1
      have hF := hv.out _ (List.getElem_mem h1)
      have HS := hid (S.atts_take ats q h1)
      have HLQ := hid (HLN.out (q + 1))
      have HG := hid hg
      obtain ⟨ev, HE⟩ : ∃ ev : ByteArray, Hid ((E.escL true ats[q].2.data.toList).getD [] = ev.data.toList) := ⟨S.bA _, hid rfl⟩
      obtain ⟨bb, HBB⟩ : ∃ bb, Hid ((E.escL true ats[q].2.data.toList).isSome = bb) := ⟨_, hid rfl⟩
      have RV := hid (rvalue_any ats[q].2 ev bb wr hF (hid ⟨HE.out, HBB.out⟩))
      have HTG : Hid (S.tagL nm (S.evs (ats.take (q + 1))) = s.data.toList ++ ([32] ++ (ats[q].1.data.toList ++ ([61, 34] ++ (ev.data.toList ++ [34]))))) := hid (by
        rw [HSS.out]
        unfold S.tagL
        rw [HS.out, HE.out]
        simp)
      clear k0 k1 hc hg hF HS HE HBB
      generalize ats[q].1 = an at *
      generalize ats[q].2 = av at *
      go_wp2_with fail
      refine RV.out.mono ?_
      rintro e w1 ⟨rfl, hb1⟩
      have d0 : w1.cell? ⟨g, o + q * 2, none⟩ = some (.string an) := (hb1.cell (p := ⟨g, o + q * 2, none⟩) (Nat.lt_of_lt_of_le HG.out HBw.out.size)).trans c0
      have z41 : w1.cell? ⟨w.heap.size, 4, none⟩ = some (.slice (some ⟨g, o, none⟩) ats.length cap) := (hb1.cell (p := ⟨w.heap.size, 4, none⟩) (lt_of_block O4.out)).trans z4
      have HB1 := hid (HB.out.trans (hb1.mono (by have := lt_of_block O4.out; omega)))
      have hsm : s.size + 1 + an.size + 2 + ev.size + 1 ≤ 9223372036854775807 := by
        have h := HLQ.out
        rw [HTG.out] at h
        simp only [List.length_append, Array.length_toList, ByteArray.size_data, List.length_cons, List.length_nil] at h
        omega
      have hsm2 : s.size + 1 + an.size + 2 + ev.size + 1 ≤ maxLen := by unfold maxLen; omega
      clear hb1 RV c0 c1 z4
      go_wp2_with fail
      exact ⟨⟨q + 1, _, rfl, by go_num, by omega, hid (by rw [HTG.out]; simp only [L.app_list, List.append_assoc]), HB1⟩, by simp [intOf]; omega⟩
    · have h1' : ¬ (q : Int) < (ats.length : Int) := by omega
      obtain rfl : q = ats.length := by omega
      obtain rfl : s = r := by
        have := HSS.out
        rw [List.take_length, HR.out] at this
        exact L.bytes_one this
      go_wp2
      go_ret
      exact ⟨rfl, HBw.out⟩
end Go.Proofs.YtmnegpdegfianaaDoor
