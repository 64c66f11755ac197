/- What the statements of layer 5 that read what is printed use: the document's Long; the bounds of a document. -/
import Derived.Test.YtmnegpdegfianaaGreatDoorS5
import Derived.Test.YtmnegpdegfianaaGreatDoorS6
import Derived.Test.YtmnegpdegfianaaGreatDoorPX
import Derived.Test.YtmnegpdegfianaaGreatDoorPLift
namespace Go.Proofs.YtmnegpdegfianaaGreatDoor
open Go.RowKit Go.Shelf
namespace S
open P L G E
/-- A document's print is not long. -/
theorem print_short {l : List Itm} (h : checkP l = (0, 0)) : (printF (normalP l) []).length ≤ 9181500000 := by
  obtain ⟨_, d2, d3, _, _⟩ := doc_normal h
  obtain ⟨_, b2, b3⟩ := doc_bound h
  have ht := texts_bound (B := 1500) (fun x hx => (b3 x hx).1)
  have ht' : (texts l).length ≤ 1500000 := by
    have : l.length * 1500 ≤ 1000 * 1500 := Nat.mul_le_mul_right _ b2
    omega
  rw [print_all]
  have := print_bound 1500000 (normalP l) [] 0 (fun x hx => ⟨(d2 x hx).1, by have := (normal_texts x hx).1; omega⟩) (by simp)
  have hm : (normalP l).length * (181500 + 6 * 1500000) ≤ 1000 * (181500 + 6 * 1500000) := Nat.mul_le_mul_right _ d3
  simp only [List.length_nil] at this
  omega
end S
/-- Normal of a document. -/
theorem normalD (V : Value) (l : List IV) (w : World) (I : Hid (ItemsIn V l w)) (HC : Hid (P.checkP (l.map (·.1)) = (0, 0))) :
    Calls Tryz.prog 11 #[V] w fun e w' => ∃ a n c l', e = .returned (.slice a n c) ∧ l'.map (·.1) = S.normalP (l.map (·.1)) ∧ ItmRow w.heap.size (.slice a n c) l' w' ∧ Below w.heap.size w w' := by
  obtain ⟨_, b2, b3⟩ := S.doc_bound HC.out
  have ht := S.texts_bound (B := 1500) (fun x hx => (b3 x hx).1)
  have hm : (l.map (·.1)).length * 1500 ≤ 1000 * 1500 := Nat.mul_le_mul_right _ b2
  rw [List.length_map] at b2
  refine (normal_any V l w I (by omega) (by omega) (fun x hx => by have := (b3 x.1 (List.mem_map.2 ⟨x, hx, rfl⟩)).2.1; omega)).mono ?_
  rintro e w' ⟨V', l', h1, h2, h3, h4⟩
  rcases h3.1.2 with ⟨rfl, _⟩ | ⟨g, cap, cur, rfl, _⟩
  · exact ⟨_, _, _, l', h1, h2, h3, h4⟩
  · exact ⟨_, _, _, l', h1, h2, h3, h4⟩
set_option maxRecDepth 100000 in
set_option maxHeartbeats 1000000 in
theorem long_any (V : Value) (l : List IV) (w : World) (I : Hid (ItemsIn V l w)) (r : Bool) (HR : Hid ((l.map (·.1)).any S.longB = r)) (F : Hid (∀ x ∈ l, x.1.text.size ≤ 9223372036854775807)) :
    Calls Tryz.prog 13 #[V] w fun e w' => e = .returned (.bool r) ∧ Below w.heap.size w w' := by
  obtain ⟨ao, cap, rfl, hl, hc⟩ := I.out.1
  have HC := hid hc
  clear hc I
  go_enter Tryz.func13, Tryz.ntmps13
  go_wp2
  go_loopw [3] (fun v3 X => ∃ q : Nat, v3 = .int .i64 (q : Int) ∧ q ≤ l.length ∧ Hid (∀ j (h : j < l.length), j < q → S.longB l[j].1 = false) ∧ Hid (Below w.heap.size w X)) (fun v3 _ => l.length - (intOf v3).toNat)
  case atStart => exact ⟨0, rfl, by omega, hid (fun j _ h => by omega), hid (Below.refl _ _)⟩
  case round =>
    obtain ⟨q, rfl, hq, HN, HB⟩ := hrel
    by_cases h1 : q < l.length
    · have h1' : (q : Int) < (l.length : Int) := by omega
      obtain ⟨g, o, rfl, hg, hc⟩ := HC.out (by rintro rfl; simp at h1)
      obtain ⟨_, _, _, k3, _⟩ := hc q h1
      have c3 := (HB.out.cell (p := ⟨g, o + q * 5 + 3, none⟩) hg).trans k3
      have hts := F.out _ (List.getElem_mem h1)
      have HLB : Hid (S.longB l[q].1 = decide (1500 < l[q].1.text.size)) := hid rfl
      have HIN : Hid (S.longB l[q].1 = true → r = true) := hid (fun e => by
        rw [← HR.out, List.any_eq_true]
        exact ⟨_, List.mem_map.2 ⟨_, List.getElem_mem h1, rfl⟩, e⟩)
      have HSN : Hid (S.longB l[q].1 = false → ∀ j (h : j < l.length), j < q + 1 → S.longB l[j].1 = false) := hid (fun e j h hj => by
        rcases Nat.lt_or_ge j q with a | a
        · exact HN.out j h a
        · obtain rfl : j = q := by omega
          exact e)
      rw [HLB.out] at HIN HSN
      clear k3 hc HLB
      generalize l[q].1.text = tx at *
      by_cases h2 : 1500 < tx.size
      · have h2' : (1500 : Int) < (tx.size : Int) := by omega
        obtain rfl : r = true := HIN.out (by simpa using h2)
        clear h2 HIN HSN
        go_wp2
        go_ret
        exact ⟨rfl, HB.out⟩
      · have h2' : ¬ (1500 : Int) < (tx.size : Int) := by omega
        have HS2 := hid (HSN.out (by simpa using h2))
        clear h2 HIN HSN
        go_wp2
        go_roundw
        case rel => exact ⟨q + 1, by go_num, by omega, HS2, HB⟩
        case measure => (simp [intOf]; try omega)
    · have h1' : ¬ (q : Int) < (l.length : Int) := by omega
      obtain rfl : r = false := by
        rw [← HR.out, List.any_eq_false]
        intro x hx
        obtain ⟨y, hy, rfl⟩ := List.mem_map.1 hx
        obtain ⟨j, hj, rfl⟩ := List.getElem_of_mem hy
        rw [HN.out j hj (by omega)]
        decide
      go_wp2
      go_ret
      exact ⟨rfl, HB.out⟩
end Go.Proofs.YtmnegpdegfianaaGreatDoor
