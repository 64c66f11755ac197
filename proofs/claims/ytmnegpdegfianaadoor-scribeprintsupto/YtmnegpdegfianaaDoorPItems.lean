/- Items that lie in memory, whoever laid them; the walks of parse's has, End and Parent, and of the document's own. -/
import Derived.Test.YtmnegpdegfianaaDoorPBase
namespace Go.Proofs.YtmnegpdegfianaaDoor
open Go.RowKit Go.Shelf
namespace P
def endG (l : List Itm) (z : Int) (to : Nat) : Nat := to + ((l.drop to).takeWhile fun x => decide (z < x.level)).length
theorem endG_yes {l : List Itm} {z : Int} {to : Nat} (h : to < l.length) (hz : z < l[to].level) : endG l z to = endG l z (to + 1) := by
  unfold endG
  rw [List.drop_eq_getElem_cons h, List.takeWhile_cons_of_pos (by simpa using hz)]
  simp
  omega
theorem endG_no {l : List Itm} {z : Int} {to : Nat} (h : to < l.length) (hz : ¬ z < l[to].level) : endG l z to = to := by
  unfold endG
  rw [List.drop_eq_getElem_cons h, List.takeWhile_cons_of_neg (by simpa using hz)]
  simp
theorem endG_end {l : List Itm} {z : Int} {to : Nat} (h : l.length ≤ to) : endG l z to = to := by
  unfold endG
  rw [List.drop_eq_nil_of_le h]
  simp
end P
/-- Attributes lie in memory. -/
def AttrsIn (v : Value) (l : List L.Attr) (w : World) : Prop :=
  ∃ ao cap, v = .slice ao l.length cap ∧ l.length ≤ 9223372036854775807 ∧ (l ≠ [] → ∃ g o, ao = some ⟨g, o, none⟩ ∧ g < w.heap.size ∧ ∀ j (h : j < l.length), w.cell? ⟨g, o + j * 2, none⟩ = some (.string l[j].1) ∧ w.cell? ⟨g, o + j * 2 + 1, none⟩ = some (.string l[j].2))
/-- Items lie in memory. -/
def ItemsIn (V : Value) (l : List IV) (w : World) : Prop :=
  (∃ ao cap, V = .slice ao l.length cap ∧ l.length ≤ 9223372036854775807 ∧ (l ≠ [] → ∃ g o, ao = some ⟨g, o, none⟩ ∧ g < w.heap.size ∧ ∀ j (h : j < l.length), w.cell? ⟨g, o + j * 5, none⟩ = some (.int .i64 l[j].1.level) ∧ w.cell? ⟨g, o + j * 5 + 1, none⟩ = some (.int .i64 l[j].1.kind) ∧ w.cell? ⟨g, o + j * 5 + 2, none⟩ = some (.string l[j].1.name) ∧ w.cell? ⟨g, o + j * 5 + 3, none⟩ = some (.string l[j].1.text) ∧ w.cell? ⟨g, o + j * 5 + 4, none⟩ = some l[j].2)) ∧
  ∀ x ∈ l, AttrsIn x.2 x.1.attrs w
theorem AttrsIn.below {v : Value} {l : List L.Attr} {w w' : World} (h : AttrsIn v l w) (hb : Below w.heap.size w w') : AttrsIn v l w' := by
  obtain ⟨ao, cap, h1, h2, h3⟩ := h
  refine ⟨ao, cap, h1, h2, fun hl => ?_⟩
  obtain ⟨g, o, h4, h5, h6⟩ := h3 hl
  refine ⟨g, o, h4, Nat.lt_of_lt_of_le h5 hb.size, fun j hj => ?_⟩
  obtain ⟨k0, k1⟩ := h6 j hj
  exact ⟨(hb.cell (p := ⟨g, o + j * 2, none⟩) h5).trans k0, (hb.cell (p := ⟨g, o + j * 2 + 1, none⟩) h5).trans k1⟩
theorem ItemsIn.below {V : Value} {l : List IV} {w w' : World} (h : ItemsIn V l w) (hb : Below w.heap.size w w') : ItemsIn V l w' := by
  refine ⟨?_, fun x hx => (h.2 x hx).below hb⟩
  obtain ⟨ao, cap, h1, h2, h3⟩ := h.1
  refine ⟨ao, cap, h1, h2, fun hl => ?_⟩
  obtain ⟨g, o, h4, h5, h6⟩ := h3 hl
  refine ⟨g, o, h4, Nat.lt_of_lt_of_le h5 hb.size, fun j hj => ?_⟩
  obtain ⟨k0, k1, k2, k3, k4⟩ := h6 j hj
  exact ⟨(hb.cell (p := ⟨g, o + j * 5, none⟩) h5).trans k0, (hb.cell (p := ⟨g, o + j * 5 + 1, none⟩) h5).trans k1, (hb.cell (p := ⟨g, o + j * 5 + 2, none⟩) h5).trans k2, (hb.cell (p := ⟨g, o + j * 5 + 3, none⟩) h5).trans k3, (hb.cell (p := ⟨g, o + j * 5 + 4, none⟩) h5).trans k4⟩
theorem encI_at : ∀ (l : List IV) (j : Nat) (hj : j < l.length), (encI l)[j * 5]? = some (.int .i64 l[j].1.level) ∧ (encI l)[j * 5 + 1]? = some (.int .i64 l[j].1.kind) ∧ (encI l)[j * 5 + 2]? = some (.string l[j].1.name) ∧ (encI l)[j * 5 + 3]? = some (.string l[j].1.text) ∧ (encI l)[j * 5 + 4]? = some l[j].2
  | a :: l, 0, _ => by simp [encI, encI1]
  | a :: l, j + 1, hj => by
    have := encI_at l j (by simpa using hj)
    have e1 : (j + 1) * 5 = j * 5 + 1 + 1 + 1 + 1 + 1 := by omega
    simp only [encI, List.flatMap_cons, encI1, List.cons_append, List.nil_append, e1] at *
    simpa using this
theorem attrs_in {base : Nat} {v : Value} {l : List L.Attr} {w : World} (h : w.ownsRow base 34 2 v l.length (encL l)) : AttrsIn v l w := by
  have h0 := h
  rcases h.2 with ⟨rfl, h1⟩ | ⟨g, cap, cur, rfl, hb, hg, h2, h3, _⟩
  · exact ⟨none, 0, by rw [h1], by omega, fun hl => absurd (List.length_eq_zero_iff.1 h1) hl⟩
  · refine ⟨_, _, rfl, by unfold maxLen at h3; omega, fun _ => ⟨g, 0, rfl, lt_of_block hg, fun j hj => ?_⟩⟩
    obtain ⟨e0, e1⟩ := encL_at l j hj
    have c := fun q hq => World.ownsRow.cellAt h0 q hq
    simp only [Nat.zero_add]
    exact ⟨by rw [c _ (by omega)]; exact e0, by rw [c _ (by omega)]; exact e1⟩
theorem items_in {base : Nat} {V : Value} {l : List IV} {w : World} (h : ItmRow base V l w) : ItemsIn V l w := by
  refine ⟨?_, fun x hx => attrs_in (h.2 x hx)⟩
  have h0 := h.1
  rcases h.1.2 with ⟨rfl, h1⟩ | ⟨g, cap, cur, rfl, hb, hg, h2, h3, _⟩
  · exact ⟨none, 0, by rw [h1], by omega, fun hl => absurd (List.length_eq_zero_iff.1 h1) hl⟩
  · refine ⟨_, _, rfl, by unfold maxLen at h3; omega, fun _ => ⟨g, 0, rfl, lt_of_block hg, fun j hj => ?_⟩⟩
    obtain ⟨e0, e1, e2, e3, e4⟩ := encI_at l j hj
    have c := fun q hq => World.ownsRow.cellAt h0 q hq
    simp only [Nat.zero_add]
    exact ⟨by rw [c _ (by omega)]; exact e0, by rw [c _ (by omega)]; exact e1, by rw [c _ (by omega)]; exact e2, by rw [c _ (by omega)]; exact e3, by rw [c _ (by omega)]; exact e4⟩
theorem below_drewN {B : Nat} {a w : World} (h : Below B a w) (m : Nat) : Below B a (w.drewN m) := ⟨h.os, h.tape, h.output, h.size, h.block⟩

section
variable {V : Value} {l : List IV} {w : World}
theorem hasI_any (hV : ∃ ao cap, V = .slice ao l.length cap) (k : Int) : Calls Tryd.prog 61 #[V, .int .i64 k] w fun e w' => e = .returned (.bool (decide (0 ≤ k ∧ k < l.length))) ∧ w' = w := by
  obtain ⟨ao, cap, rfl⟩ := hV
  by_cases h0 : 0 ≤ k
  · by_cases h1 : k < (l.length : Int)
    · rw [show decide (0 ≤ k ∧ k < (l.length : Int)) = true by simp [h0, h1]]
      go_enter Tryd.func61, Tryd.ntmps61
      go_wp2
      go_ret
      exact ⟨rfl, rfl⟩
    · rw [show decide (0 ≤ k ∧ k < (l.length : Int)) = false by simp [h1]]
      go_enter Tryd.func61, Tryd.ntmps61
      go_wp2
      go_ret
      exact ⟨rfl, rfl⟩
  · rw [show decide (0 ≤ k ∧ k < (l.length : Int)) = false by simp [h0]]
    go_enter Tryd.func61, Tryd.ntmps61
    go_wp2
    go_ret
    exact ⟨rfl, rfl⟩
set_option maxRecDepth 100000 in
set_option maxHeartbeats 4000000 in
theorem end_any (I : Hid (ItemsIn V l w)) (k : Int) : Calls Tryd.prog 30 #[V, .int .i64 k] w fun e w' => e = .returned (.int .i64 (P.endP (l.map (·.1)) k)) ∧ Below w.heap.size w w' := by
  obtain ⟨ao, cap, rfl, hl, hc⟩ := I.out.1
  obtain ⟨r, HR⟩ : ∃ r, Hid (P.endP (l.map (·.1)) k = r) := ⟨_, hid rfl⟩
  rw [HR.out]
  go_enter Tryd.func30, Tryd.ntmps30
  go_wp2_with fail
  refine (hasI_any ⟨ao, cap, rfl⟩ k).mono ?_
  rintro e w1 ⟨rfl, rfl⟩
  by_cases hk : 0 ≤ k ∧ k < (l.length : Int)
  · obtain ⟨k, rfl⟩ : ∃ q : Nat, k = (q : Int) := ⟨k.toNat, by omega⟩
    have hk1 : k < l.length := by omega
    obtain ⟨g, o, rfl, hg, hc⟩ := hc (by rintro rfl; simp at hk1)
    have HE : Hid (P.endP (l.map (·.1)) (k : Int) = (P.endG (l.map (·.1)) l[k].1.level (k + 1) : Int)) := hid (by
      unfold P.endP P.endN
      rw [dif_pos (by simpa using hk)]
      simp [P.endG])
    rw [show decide (0 ≤ (k : Int) ∧ (k : Int) < (l.length : Int)) = true by simp [hk1]]
    have HR2 := hid (HR.out.symm.trans HE.out)
    clear HR
    have HC := hid hc
    have ck : ∀ W, Below w1.heap.size w1 W → W.cell? ⟨g, o + k * 5, none⟩ = some (.int .i64 l[k].1.level) := fun W h => (h.cell (p := ⟨g, o + k * 5, none⟩) hg).trans (hc k hk1).1
    have HCK := hid ck
    clear hc ck HE hk I
    have hk1' : (k : Int) < (l.length : Int) := by omega
    generalize l[k].1.level = z at *
    go_wp2
    go_loopw [5] (fun v5 W => ∃ to : Nat, v5 = .int .i64 (to : Int) ∧ to ≤ l.length ∧ Hid (P.endG (l.map (·.1)) z (k + 1) = P.endG (l.map (·.1)) z to) ∧ Hid (Below w1.heap.size w1 W)) (fun v5 _ => l.length - (intOf v5).toNat)
    case atStart => exact ⟨k + 1, by go_num, by omega, hid rfl, hid (Below.refl _ _)⟩
    case round =>
      obtain ⟨to, rfl, hto, HS, HB⟩ := hrel
      have ck := HCK.out wr HB.out
      by_cases h1 : to < l.length
      · have h1' : (to : Int) < (l.length : Int) := by omega
        have ct : wr.cell? ⟨g, o + to * 5, none⟩ = some (.int .i64 l[to].1.level) := (HB.out.cell (p := ⟨g, o + to * 5, none⟩) hg).trans (HC.out to h1).1
        by_cases h2 : z < l[to].1.level
        · have HN : Hid (P.endG (l.map (·.1)) z (k + 1) = P.endG (l.map (·.1)) z (to + 1)) := hid (HS.out.trans (P.endG_yes (by simpa using h1) (by simpa using h2)))
          generalize l[to].1.level = y at *
          clear HS
          go_wp2_with fail
          go_quiet (fail)
          go_wp2
          go_roundw
          case rel => exact ⟨to + 1, by go_num, by omega, HN, hid (below_drewN HB.out _)⟩
          case measure => (simp [intOf]; try omega)
        · have HN : Hid (P.endG (l.map (·.1)) z (k + 1) = to) := hid (HS.out.trans (P.endG_no (by simpa using h1) (by simpa using h2)))
          generalize l[to].1.level = y at *
          clear HS
          go_wp2_with fail
          go_quiet (fail)
          go_wp2
          go_ret
          exact ⟨by rw [HR2.out, HN.out]; rfl, below_drewN HB.out _⟩
      · have h1' : ¬ (to : Int) < (l.length : Int) := by omega
        have HN : Hid (P.endG (l.map (·.1)) z (k + 1) = to) := hid (HS.out.trans (P.endG_end (by simp; omega)))
        clear HS
        go_wp2_with fail
        go_quiet (fail)
        go_wp2
        go_ret
        exact ⟨by rw [HR2.out, HN.out]; rfl, below_drewN HB.out _⟩
  · have HE : Hid (P.endP (l.map (·.1)) k = 0) := hid (by unfold P.endP; rw [dif_neg (by simpa using hk)])
    rw [show decide (0 ≤ k ∧ k < (l.length : Int)) = false by simpa using hk]
    obtain rfl : r = _ := HR.out.symm.trans HE.out
    clear hc hk HR HE
    go_wp2
    go_ret
    exact ⟨rfl, Below.refl _ _⟩
end

end Go.Proofs.YtmnegpdegfianaaDoor
