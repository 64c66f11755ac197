/- slices.SortFunc over a reader's attributes: they rise by name, and are what the plain function says. -/
import Derived.Test.YtafjffnijonglaaGreatDoorLRead5
namespace Go.Proofs.YtafjffnijonglaaGreatDoor
open Go.RowKit Go.Shelf Go.Sort
theorem L.rise_pw : ∀ {l : List L.Attr}, L.Rise l ↔ l.Pairwise (fun a x => L.ltB a.1 x.1 = true)
  | [] => by simp [L.Rise]
  | a :: l => by rw [List.pairwise_cons, ← L.rise_pw]; rfl
theorem L.apart_pw : ∀ {l : List L.Attr}, L.Apart l ↔ l.Pairwise (fun a x => x.1 ≠ a.1)
  | [] => by simp [L.Apart]
  | a :: l => by rw [List.pairwise_cons, ← L.apart_pw]; rfl
theorem L.apart_perm {l m : List L.Attr} (h : l.Perm m) (ha : L.Apart l) : L.Apart m := by
  rw [L.apart_pw] at *
  exact (h.pairwise_iff (fun h q => h q.symm)).1 ha
def cmpA (x y : L.Attr) : Int := Lib.compareBytes x.1.data.toList y.1.data.toList
theorem ltOf_cmpA (x y : L.Attr) : ltOf cmpA x y = L.ltB x.1 y.1 := by
  unfold ltOf cmpA L.ltB
  exact L.cmp_lt _ _
theorem swoA : SWO (ltOf cmpA) where
  irrefl x := by rw [ltOf_cmpA]; exact L.lt_irr _
  trans x y z h1 h2 := by rw [ltOf_cmpA] at *; exact L.lt_tr h1 h2
  ntrans x y z h1 h2 := by
    rw [ltOf_cmpA] at *
    simp only [L.ltB, decide_eq_false_iff_not] at *
    exact List.le_trans h2 h1
theorem sorted_one (l : List L.Attr) (d : Array L.Attr) (ha : L.Apart l) (hp : PermIn 0 l.toArray.size l.toArray d) (hs : SortedIn (ltOf cmpA) 0 l.toArray.size d) : d.toList = L.sortA l := by
  obtain ⟨h1, _, h3⟩ := hp
  have e1 : d.extract 0 l.toArray.size = d := by rw [← h1]; exact Array.extract_size
  have e2 : l.toArray.extract 0 l.toArray.size = l.toArray := Array.extract_size
  rw [e1, e2] at h3
  have h4 : d.toList.Perm l := by simpa using h3
  obtain ⟨r1, r2⟩ := L.sort_rise l ha
  refine L.rise_one ?_ r1 (h4.trans r2.symm)
  have a2 := L.apart_pw.1 (L.apart_perm h4.symm ha)
  rw [L.rise_pw]
  rw [List.pairwise_iff_getElem] at *
  intro i j hi hj hij
  have n1 := a2 i j hi hj hij
  have hj' : j < l.toArray.size := by rw [← h1]; simpa using hj
  have n2 := hs i j (Nat.zero_le _) hij hj'
  rw [ltOf_cmpA, getElem!_pos d j (by simpa using hj), getElem!_pos d i (by simpa using hi)] at n2
  cases h : L.ltB d.toList[i].1 d.toList[j].1
  · exact absurd (L.lt_tri _ _ h (by simpa using n2)).symm n1
  · rfl
theorem flat_enc (d : Array L.Attr) : (flatK encA 2 d).toList = encL d.toList := by
  apply List.ext_getElem?
  intro t
  by_cases ht : t < d.size * 2
  · have h1 := get_flatK encA 2 d t ht
    have hd : t / 2 < d.toList.length := by simp; omega
    obtain ⟨e1, e2⟩ := encL_at d.toList (t / 2) hd
    rw [Array.getElem?_toList, Array.getElem?_eq_getElem (by simpa using ht), ← getElem!_pos (flatK encA 2 d) t (by simpa using ht), h1, getElem!_pos d (t / 2) (by simpa using hd)]
    have hm : t % 2 = 0 ∨ t % 2 = 1 := by omega
    rcases hm with hm | hm
    · rw [hm]
      rw [show t / 2 * 2 = t by omega] at e1
      rw [e1]
      simp [encA]
    · rw [hm]
      rw [show t / 2 * 2 + 1 = t by omega] at e2
      rw [e2]
      simp [encA]
  · rw [List.getElem?_eq_none (by simp; omega), List.getElem?_eq_none (by rw [encL_length]; simp; omega)]
set_option maxHeartbeats 1000000 in
/-- The closure of attributes. -/
theorem cmp_any (x y : L.Attr) (W : World) : Calls Tryz.prog 60 #[.agg #[.string x.1, .string x.2], .agg #[.string y.1, .string y.2]] W fun e w' => e = .returned (.int .i64 (cmpA x y)) ∧ ∃ q os', w' = grow (W.drewN q) os' := by
  have hcon := fun W' => compare_any x.1 y.1 W'
  unfold cmpA
  generalize Lib.compareBytes x.1.data.toList y.1.data.toList = r at hcon ⊢
  have HC := hid hcon
  clear hcon
  go_enter Tryz.func60, Tryz.ntmps60
  go_wp2_with fail
  refine (HC.out _).mono ?_
  rintro e w' ⟨rfl, rfl⟩
  go_wp2
  go_ret
  exact ⟨rfl, 0, _, by rw [alloc_eq_grow, alloc_eq_grow, grow_grow]; rfl⟩
section
variable {W0 : Base} {b : Nat} {s : ByteArray} {i : Nat} {k : Int} {p : Nat} {nm tx : ByteArray} {v : Value} {l : List L.Attr} {w : World}
theorem RD.swap (R : RD W0 b s i k p nm tx v l w) {w' : World} (hg : w.grownBy w' v.ownBlock) {l' : List L.Attr} (hrow : AttrsAt b v l' w') : RD W0 b s i k p nm tx v l' w' := by
  obtain ⟨h1, h2⟩ := R.grown hg
  refine ⟨R.tab, R.low, h2, h1, hrow, fun c hc => ?_⟩
  obtain ⟨k1, k2, k3⟩ := R.keep c hc
  exact ⟨by rw [hg.block c.1 (lt_of_block k1) (fun q => k3 q.symm)]; exact k1, k2, k3⟩
theorem sort_any (R : RD W0 b s i k p nm tx v l w) (ha : L.Apart l) (hl : l.length ≤ 20) :
    Calls Tryz.prog 59 #[v, .func (.func 60) #[] #[]] w fun e w' => e = .returned (.tuple #[]) ∧ RD W0 b s i k p nm tx v (L.sortA l) w' := by
  rcases R.row.2 with ⟨rfl, h0⟩ | ⟨g, cap, cur, rfl, hg, hh, hn, hcap, hcs, ht⟩
  · have : l = [] := List.length_eq_zero_iff.1 h0
    subst this
    refine (AnyF.slices_SortFunc_none laysSf none 0 _ w).mono ?_
    rintro e w1 ⟨rfl, rfl⟩
    exact ⟨rfl, R⟩
  · have hH : HoldsK encA 2 w g 0 l.toArray := by
      intro j hj
      have hj' : j < l.length * 2 := by simpa using hj
      have c1 := World.ownsRow.cellAt R.row j hj'
      refine ⟨?_, World.ownsRow.frozenAt R.row _⟩
      rw [Nat.zero_add, c1]
      have := flat_enc l.toArray
      rw [List.toList_toArray] at this
      rw [← this, Array.getElem?_toList, Array.getElem?_eq_getElem hj, getElem!_pos (flatK encA 2 l.toArray) j hj]
      rfl
    have h := AnyQ.slices_SortFunc laysSf 2 Tryz.isAgg67 Tryz.sizeOf67 encA (fun _ => rfl) (fun x => one_two x.1 x.2) cmpA swoA 60 #[] g 0 cap l.toArray w
      (enters_of Tryz.func60 (by kernel_rfl) rfl) (fun _ _ _ _ x y => cmp_any x y _) hH (lt_of_block hh) (by simp; omega)
    refine Calls.mono h ?_
    rintro e w1 ⟨rfl, d, n, os, hp, hs, rfl⟩
    have hd := sorted_one l d ha hp hs
    have hsz : d.size = l.length := by simpa using hp.1
    have hF : (flatK encA 2 d).toList = encL (L.sortA l) := by rw [flat_enc, hd]
    refine ⟨rfl, R.swap (w' := sortWorldK encA 2 w g 0 n d os) ?_ ?_⟩
    · refine ⟨rfl, rfl, rfl, ?_, fun q hq hne => ?_⟩
      · show w.heap.size ≤ (grow _ _).heap.size
        simp [putRowK, Sort.ahead]
      · show (grow (putRow id (Sort.ahead w n) g 0 (flatK encA 2 d)) os).heap[q]? = _
        rw [heap_grow_old _ _ (by simpa using hq)]
        have : g ≠ q := fun e => hne (by rw [e]; rfl)
        simp [putRow, mapBlock, Sort.ahead, Array.getElem?_modify, this]
    · have hl2 : (L.sortA l).length = l.length := (L.sort_rise l ha).2.length_eq
      have hb2 : (sortWorldK encA 2 w g 0 n d os).heap[g]? = some (.cells (putCells id 0 (flatK encA 2 d) cur) 67 (0, 0)) := by
        show (grow (putRow id (Sort.ahead w n) g 0 (flatK encA 2 d)) os).heap[g]? = _
        rw [heap_grow_old _ _ (by simpa using lt_of_block hh)]
        simp [putRow, mapBlock, Sort.ahead, Array.getElem?_modify, hh, onCells]
      refine ⟨by rw [encL_length], .inr ⟨g, cap, _, by rw [hl2], hg, hb2, by rw [hl2]; exact hn, hcap, by simp [putCells, hcs], ?_⟩⟩
      rw [← hF, hl2]
      apply List.ext_getElem?
      intro j
      by_cases hj : j < l.length * 2
      · have j2 : j < cur.size := by rw [hcs]; have := Nat.mul_le_mul_right 2 hn; omega
        have j3 : j < (flatK encA 2 d).size := by simp; omega
        rw [List.getElem?_take_of_lt hj, Array.getElem?_toList, Array.getElem?_toList]
        simp only [putCells, Array.getElem?_mapIdx, Array.getElem?_eq_getElem j2, Array.getElem?_eq_getElem j3]
        simp only [Option.map_some, Nat.zero_le, true_and, Nat.zero_add, if_pos j3, Nat.sub_zero, id]
        rw [getElem!_pos (flatK encA 2 d) j j3]
      · rw [List.getElem?_take_eq_none (by omega), List.getElem?_eq_none (by simp; omega)]
end
end Go.Proofs.YtafjffnijonglaaGreatDoor
