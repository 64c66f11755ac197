/- The walks of the document's own End and Parent. -/
import Derived.Test.YtafjffnijonglaaDoorPItems
namespace Go.Proofs.YtafjffnijonglaaDoor
open Go.RowKit Go.Shelf
section
variable {V : Value} {l : List IV} {w : World}
set_option maxRecDepth 100000 in
set_option maxHeartbeats 4000000 in
theorem rend_any (I : Hid (ItemsIn V l w)) (k : Int) : Calls Tryd.prog 19 #[V, .int .i64 k] w fun e w' => e = .returned (.int .i64 (P.endP (l.map (·.1)) k)) ∧ Below w.heap.size w w' := by
  obtain ⟨ao, cap, rfl, hl, hc⟩ := I.out.1
  obtain ⟨r, HR⟩ : ∃ r, Hid (P.endP (l.map (·.1)) k = r) := ⟨_, hid rfl⟩
  rw [HR.out]
  go_enter Tryd.func19, Tryd.ntmps19
  by_cases hk0 : k < 0
  · obtain rfl : r = 0 := by rw [← HR.out]; unfold P.endP; rw [dif_neg (by omega)]
    clear hc HR I
    go_wp2
    go_ret
    exact ⟨rfl, Below.refl _ _⟩
  by_cases hk2 : (l.length : Int) ≤ k
  · obtain rfl : r = 0 := by rw [← HR.out]; unfold P.endP; rw [dif_neg (by simp; omega)]
    clear hc HR I
    go_wp2
    go_ret
    exact ⟨rfl, Below.refl _ _⟩
  obtain ⟨k, rfl⟩ : ∃ q : Nat, k = (q : Int) := ⟨k.toNat, by omega⟩
  have hk1 : k < l.length := by omega
  obtain ⟨g, o, rfl, hg, hc⟩ := hc (by rintro rfl; simp at hk1)
  have HE : Hid (P.endP (l.map (·.1)) (k : Int) = (P.endG (l.map (·.1)) l[k].1.level (k + 1) : Int)) := hid (by
    unfold P.endP P.endN
    rw [dif_pos (by simp; omega)]
    simp [P.endG])
  have HR2 := hid (HR.out.symm.trans HE.out)
  clear HR
  have HC := hid hc
  have ck : ∀ W, Below w.heap.size w W → W.cell? ⟨g, o + k * 5, none⟩ = some (.int .i64 l[k].1.level) := fun W h => (h.cell (p := ⟨g, o + k * 5, none⟩) hg).trans (hc k hk1).1
  have HCK := hid ck
  clear hc ck HE I hk0
  have hk1' : (k : Int) < (l.length : Int) := by omega
  generalize l[k].1.level = z at *
  go_wp2
  go_loopw [5] (fun v5 W => ∃ to : Nat, v5 = .int .i64 (to : Int) ∧ to ≤ l.length ∧ Hid (P.endG (l.map (·.1)) z (k + 1) = P.endG (l.map (·.1)) z to) ∧ Hid (Below w.heap.size w W)) (fun v5 _ => l.length - (intOf v5).toNat)
  case atStart => exact ⟨k + 1, by go_num, by omega, hid rfl, hid (Below.refl _ _)⟩
  case round =>
    obtain ⟨to, rfl, hto, HS, HB⟩ := hrel
    have ck := HCK.out wr HB.out
    by_cases h1 : to < l.length
    · have h1' : (to : Int) < (l.length : Int) := by omega
      have ct : wr.cell? ⟨g, o + to * 5, none⟩ = some (.int .i64 l[to].1.level) := (HB.out.cell (p := ⟨g, o + to * 5, none⟩) hg).trans (HC.out to h1).1
      by_cases h2 : z < l[to].1.level
      · have HN : Hid (P.endG (l.map (·.1)) z (k + 1) = P.endG (l.map (·.1)) z (to + 1)) := hid (HS.out.trans (P.endG_yes (by simpa using h1) (by simpa using h2)))
        have h2' : ¬ l[to].1.level ≤ z := by omega
        generalize l[to].1.level = y at *
        clear HS
        go_wp2_with fail
        go_quiet (fail)
        go_wp2
        go_roundw
        case rel => exact ⟨to + 1, by go_num, by omega, HN, hid (below_drewN HB.out _)⟩
        case measure => (simp [intOf]; try omega)
      · have HN : Hid (P.endG (l.map (·.1)) z (k + 1) = to) := hid (HS.out.trans (P.endG_no (by simpa using h1) (by simpa using h2)))
        have h2' : l[to].1.level ≤ z := by omega
        generalize l[to].1.level = y at *
        clear HS
        go_wp2_with fail
        go_quiet (fail)
        go_wp2
        go_ret
        exact ⟨by rw [HR2.out, HN.out]; rfl, below_drewN HB.out _⟩
    · have h1' : ¬ (to : Int) < (l.length : Int) := by omega
      have HN : Hid (P.endG (l.map (·.1)) z (k + 1) = l.length) := hid (HS.out.trans ((P.endG_end (by simp; omega)).trans (by omega)))
      clear HS
      go_wp2
      go_ret
      exact ⟨by rw [HR2.out, HN.out]; rfl, HB.out⟩
set_option maxRecDepth 100000 in
set_option maxHeartbeats 4000000 in
theorem rparent_any (I : Hid (ItemsIn V l w)) (k : Int) : Calls Tryd.prog 21 #[V, .int .i64 k] w fun e w' => e = .returned (.int .i64 (P.parentP (l.map (·.1)) k)) ∧ Below w.heap.size w w' := by
  obtain ⟨ao, cap, rfl, hl, hc⟩ := I.out.1
  obtain ⟨r, HR⟩ : ∃ r, Hid (P.parentP (l.map (·.1)) k = r) := ⟨_, hid rfl⟩
  rw [HR.out]
  by_cases hk : 0 ≤ k ∧ k < (l.length : Int)
  · obtain ⟨k, rfl⟩ : ∃ q : Nat, k = (q : Int) := ⟨k.toNat, by omega⟩
    have hk1 : k < l.length := by omega
    obtain ⟨g, o, rfl, hg, hc⟩ := hc (by rintro rfl; simp at hk1)
    have HE : Hid (P.parentP (l.map (·.1)) (k : Int) = P.downF (l.map (·.1)) l[k].1.level k) := hid (by
      unfold P.parentP
      rw [dif_pos (by simpa using hk)]
      simp)
    have HR2 := hid (HR.out.symm.trans HE.out)
    have HC := hid hc
    have ck : ∀ W, Below w.heap.size w W → W.cell? ⟨g, o + k * 5, none⟩ = some (.int .i64 l[k].1.level) := fun W h => (h.cell (p := ⟨g, o + k * 5, none⟩) hg).trans (hc k hk1).1
    have HCK := hid ck
    clear hc ck HE hk I HR
    have hk1' : (k : Int) < (l.length : Int) := by omega
    generalize l[k].1.level = z at *
    go_enter Tryd.func21, Tryd.ntmps21
    go_wp2
    go_loopw [5, 6] (fun v5 v6 W => ∃ n : Nat, v6 = .int .i64 (n : Int) ∧ n ≤ k ∧ v5 = .int .i64 (P.downF (l.map (·.1)) z n) ∧ Hid (Below w.heap.size w W)) (fun _ v6 _ => k - (intOf v6).toNat)
    case atStart => exact ⟨0, rfl, by omega, rfl, hid (Below.refl _ _)⟩
    case round =>
      obtain ⟨n, rfl, hn, rfl, HB⟩ := hrel
      have ck := HCK.out wr HB.out
      by_cases h1 : n < k
      · have h3 : n < l.length := by omega
        have h1' : (n : Int) < (k : Int) := by omega
        have h3' : (n : Int) < (l.length : Int) := by omega
        have ct : wr.cell? ⟨g, o + n * 5, none⟩ = some (.int .i64 l[n].1.level) := (HB.out.cell (p := ⟨g, o + n * 5, none⟩) hg).trans (HC.out n h3).1
        by_cases h2 : l[n].1.level < z
        · have HN : Hid (P.downF (l.map (·.1)) z (n + 1) = (n : Int)) := hid (P.down_yes (by simpa using h3) (by simpa using h2))
          generalize l[n].1.level = y at *
          generalize P.downF (l.map (·.1)) z n = d at *
          go_wp2_with fail
          go_quiet (fail)
          go_wp2
          go_roundw
          case rel => exact ⟨n + 1, by go_num, by omega, by rw [HN.out], hid (below_drewN HB.out _)⟩
          case measure => (simp [intOf]; try omega)
        · have HN : Hid (P.downF (l.map (·.1)) z (n + 1) = P.downF (l.map (·.1)) z n) := hid (P.down_no (by simpa using h3) (by simpa using h2))
          generalize l[n].1.level = y at *
          generalize P.downF (l.map (·.1)) z n = d at *
          go_wp2_with fail
          go_quiet (fail)
          go_wp2
          go_roundw
          case rel => exact ⟨n + 1, by go_num, by omega, by rw [HN.out], hid (below_drewN HB.out _)⟩
          case measure => (simp [intOf]; try omega)
      · have h1' : ¬ (n : Int) < (k : Int) := by omega
        obtain rfl : n = k := by omega
        clear h1
        go_wp2
        go_ret
        exact ⟨by rw [HR2.out]; rfl, HB.out⟩
  · obtain rfl : r = -1 := by rw [← HR.out]; unfold P.parentP; rw [dif_neg (by simpa using hk)]
    clear hc HR I
    go_enter Tryd.func21, Tryd.ntmps21
    go_wp2
    go_loopw [5, 6] (fun v5 v6 W => v5 = .int .i64 (-1) ∧ v6 = .int .i64 0 ∧ Hid (Below w.heap.size w W)) (fun _ _ _ => 0)
    case atStart => exact ⟨rfl, rfl, hid (Below.refl _ _)⟩
    case round =>
      obtain ⟨rfl, rfl, HB⟩ := hrel
      by_cases h0 : 0 < k
      · have h1 : ¬ k < (l.length : Int) := by omega
        clear hk
        go_wp2
        go_ret
        exact ⟨rfl, HB.out⟩
      · clear hk
        go_wp2
        go_ret
        exact ⟨rfl, HB.out⟩
end
set_option maxRecDepth 100000 in
set_option maxHeartbeats 4000000 in
theorem places_walk (V : Value) (l : List IV) (k : Int) (w : World) (I : Hid (ItemsIn V l w)) (ht : Tab w) :
    Calls Tryd.prog 6 #[V, .int .i64 k] w fun e w' => e = .returned (.bool true) ∧ Below w.heap.size w w' := by
  have HT := hid ht
  clear ht
  obtain ⟨ao, cap, rfl, _⟩ := I.out.1
  go_enter Tryd.func6, Tryd.ntmps6
  go_wp2_with fail
  refine (aliveP_any w HT.out).mono ?_
  rintro e w1 ⟨rfl, hb1⟩
  have I1 := hid (I.out.below hb1)
  have B1 := hid hb1
  clear hb1
  go_wp2_with fail
  refine (end_any I1 k).mono ?_
  rintro e w2 ⟨rfl, hb2⟩
  have I2 := hid (I1.out.below hb2)
  have B2 := hid (B1.out.trans (hb2.mono B1.out.size))
  clear hb2 I1 B1
  go_wp2_with fail
  refine (rend_any I2 k).mono ?_
  rintro e w3 ⟨rfl, hb3⟩
  have I3 := hid (I2.out.below hb3)
  have B3 := hid (B2.out.trans (hb3.mono B2.out.size))
  clear hb3 I2 B2
  generalize P.endP (l.map (·.1)) k = x at *
  go_wp2_with fail
  refine (parent_any I3 k).mono ?_
  rintro e w4 ⟨rfl, hb4⟩
  have I4 := hid (I3.out.below hb4)
  have B4 := hid (B3.out.trans (hb4.mono B3.out.size))
  clear hb4 I3 B3
  go_wp2_with fail
  refine (rparent_any I4 k).mono ?_
  rintro e w5 ⟨rfl, hb5⟩
  have B5 := hid (B4.out.trans (hb5.mono B4.out.size))
  clear hb5 I4 B4
  generalize P.parentP (l.map (·.1)) k = y at *
  go_wp2
  go_ret
  exact ⟨rfl, B5.out⟩
end Go.Proofs.YtafjffnijonglaaDoor
