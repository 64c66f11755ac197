/- The walk of lexis.One: the token at a place is told as the plain function says. -/
import Derived.Test.YtmnegpdegfianaaGreatDoorLRead5
import Derived.Test.YtmnegpdegfianaaGreatDoorEScope
namespace Go.Proofs.YtmnegpdegfianaaGreatDoor
open Go.RowKit Go.Shelf Go.Sort
theorem L.rise_pw : ∀ {l : List L.Attr}, L.Rise l ↔ l.Pairwise (fun a x => L.ltB a.1 x.1 = true)
  | [] => by simp [L.Rise]
  | a :: l => by rw [List.pairwise_cons, ← L.rise_pw]; rfl
theorem L.apart_pw : ∀ {l : List L.Attr}, L.Apart l ↔ l.Pairwise (fun a x => x.1 ≠ a.1)
  | [] => by simp [L.Apart]
  | a :: l => by rw [List.pairwise_cons, ← L.apart_pw]; rfl
theorem L.apart_perm {l m : List L.Attr} (h : l.Perm m) (ha : L.Apart l) : L.Apart m := by
  rw [L.apart_pw] at *
  exact (h.pairwise_iff (fun h q => h q.symm)).1 ha
def cmpA (x y : L.Attr) : Int := Lib.compareBytes x.1.data.toList y.1.data.toList
theorem ltOf_cmpA (x y : L.Attr) : ltOf cmpA x y = L.ltB x.1 y.1 := by
  unfold ltOf cmpA L.ltB
  exact L.cmp_lt _ _
theorem swoA : SWO (ltOf cmpA) where
  irrefl x := by rw [ltOf_cmpA]; exact L.lt_irr _
  trans x y z h1 h2 := by rw [ltOf_cmpA] at *; exact L.lt_tr h1 h2
  ntrans x y z h1 h2 := by
    rw [ltOf_cmpA] at *
    simp only [L.ltB, decide_eq_false_iff_not] at *
    exact List.le_trans h2 h1
theorem sorted_one (l : List L.Attr) (d : Array L.Attr) (ha : L.Apart l) (hp : PermIn 0 l.toArray.size l.toArray d) (hs : SortedIn (ltOf cmpA) 0 l.toArray.size d) : d.toList = L.sortA l := by
  obtain ⟨h1, _, h3⟩ := hp
  have e1 : d.extract 0 l.toArray.size = d := by rw [← h1]; exact Array.extract_size
  have e2 : l.toArray.extract 0 l.toArray.size = l.toArray := Array.extract_size
  rw [e1, e2] at h3
  have h4 : d.toList.Perm l := by simpa using h3
  obtain ⟨r1, r2⟩ := L.sort_rise l ha
  refine L.rise_one ?_ r1 (h4.trans r2.symm)
  have a2 := L.apart_pw.1 (L.apart_perm h4.symm ha)
  rw [L.rise_pw]
  rw [List.pairwise_iff_getElem] at *
  intro i j hi hj hij
  have n1 := a2 i j hi hj hij
  have hj' : j < l.toArray.size := by rw [← h1]; simpa using hj
  have n2 := hs i j (Nat.zero_le _) hij hj'
  rw [ltOf_cmpA, getElem!_pos d j (by simpa using hj), getElem!_pos d i (by simpa using hi)] at n2
  cases h : L.ltB d.toList[i].1 d.toList[j].1
  · exact absurd (L.lt_tri _ _ h (by simpa using n2)).symm n1
  · rfl
theorem flat_enc (d : Array L.Attr) : (flatK encA 2 d).toList = encL d.toList := by
  apply List.ext_getElem?
  intro t
  by_cases ht : t < d.size * 2
  · have h1 := get_flatK encA 2 d t ht
    have hd : t / 2 < d.toList.length := by simp; omega
    obtain ⟨e1, e2⟩ := encL_at d.toList (t / 2) hd
    rw [Array.getElem?_toList, Array.getElem?_eq_getElem (by simpa using ht), ← getElem!_pos (flatK encA 2 d) t (by simpa using ht), h1, getElem!_pos d (t / 2) (by simpa using hd)]
    have hm : t % 2 = 0 ∨ t % 2 = 1 := by omega
    rcases hm with hm | hm
    · rw [hm]
      rw [show t / 2 * 2 = t by omega] at e1
      rw [e1]
      simp [encA]
    · rw [hm]
      rw [show t / 2 * 2 + 1 = t by omega] at e2
      rw [e2]
      simp [encA]
  · rw [List.getElem?_eq_none (by simp; omega), List.getElem?_eq_none (by rw [encL_length]; simp; omega)]
set_option maxHeartbeats 1000000 in
/-- The closure of attributes. -/
theorem cmp_any (x y : L.Attr) (W : World) : Calls Tryz.prog 166 #[.agg #[.string x.1, .string x.2], .agg #[.string y.1, .string y.2]] W fun e w' => e = .returned (.int .i64 (cmpA x y)) ∧ ∃ q os', w' = grow (W.drewN q) os' := by
  have hcon := fun W' => compare_any x.1 y.1 W'
  unfold cmpA
  generalize Lib.compareBytes x.1.data.toList y.1.data.toList = r at hcon ⊢
  have HC := hid hcon
  clear hcon
  go_enter Tryz.func166, Tryz.ntmps166
  go_wp2_with fail
  refine (HC.out _).mono ?_
  rintro e w' ⟨rfl, rfl⟩
  go_wp2
  go_ret
  exact ⟨rfl, 0, _, by rw [alloc_eq_grow, alloc_eq_grow, grow_grow]; rfl⟩
section
variable {W0 : Base} {b : Nat} {s : ByteArray} {i : Nat} {k : Int} {p : Nat} {nm tx : ByteArray} {v : Value} {l : List L.Attr} {w : World}
theorem RD.swap (R : RD W0 b s i k p nm tx v l w) {w' : World} (hg : w.grownBy w' v.ownBlock) {l' : List L.Attr} (hrow : AttrsAt b v l' w') : RD W0 b s i k p nm tx v l' w' := by
  obtain ⟨h1, h2⟩ := R.grown hg
  refine ⟨R.tab, R.low, h2, h1, hrow, fun c hc => ?_⟩
  obtain ⟨k1, k2, k3⟩ := R.keep c hc
  exact ⟨by rw [hg.block c.1 (lt_of_block k1) (fun q => k3 q.symm)]; exact k1, k2, k3⟩
theorem sort_any (R : RD W0 b s i k p nm tx v l w) (ha : L.Apart l) (hl : l.length ≤ 20) :
    Calls Tryz.prog 165 #[v, .func (.func 166) #[] #[]] w fun e w' => e = .returned (.tuple #[]) ∧ RD W0 b s i k p nm tx v (L.sortA l) w' := by
  rcases R.row.2 with ⟨rfl, h0⟩ | ⟨g, cap, cur, rfl, hg, hh, hn, hcap, hcs, ht⟩
  · have : l = [] := List.length_eq_zero_iff.1 h0
    subst this
    refine (AnyF.slices_SortFunc_none laysSf none 0 _ w).mono ?_
    rintro e w1 ⟨rfl, rfl⟩
    exact ⟨rfl, R⟩
  · have hH : HoldsK encA 2 w g 0 l.toArray := by
      intro j hj
      have hj' : j < l.length * 2 := by simpa using hj
      have c1 := World.ownsRow.cellAt R.row j hj'
      refine ⟨?_, World.ownsRow.frozenAt R.row _⟩
      rw [Nat.zero_add, c1]
      have := flat_enc l.toArray
      rw [List.toList_toArray] at this
      rw [← this, Array.getElem?_toList, Array.getElem?_eq_getElem hj, getElem!_pos (flatK encA 2 l.toArray) j hj]
      rfl
    have h := AnyQ.slices_SortFunc laysSf 2 Tryz.isAgg143 Tryz.sizeOf143 encA (fun _ => rfl) (fun x => one_two x.1 x.2) cmpA swoA 166 #[] g 0 cap l.toArray w
      (enters_of Tryz.func166 (by kernel_rfl) rfl) (fun _ _ _ _ x y => cmp_any x y _) hH (lt_of_block hh) (by simp; omega)
    refine Calls.mono h ?_
    rintro e w1 ⟨rfl, d, n, os, hp, hs, rfl⟩
    have hd := sorted_one l d ha hp hs
    have hsz : d.size = l.length := by simpa using hp.1
    have hF : (flatK encA 2 d).toList = encL (L.sortA l) := by rw [flat_enc, hd]
    refine ⟨rfl, R.swap (w' := sortWorldK encA 2 w g 0 n d os) ?_ ?_⟩
    · refine ⟨rfl, rfl, rfl, ?_, fun q hq hne => ?_⟩
      · show w.heap.size ≤ (grow _ _).heap.size
        simp [putRowK, Sort.ahead]
      · show (grow (putRow id (Sort.ahead w n) g 0 (flatK encA 2 d)) os).heap[q]? = _
        rw [heap_grow_old _ _ (by simpa using hq)]
        have : g ≠ q := fun e => hne (by rw [e]; rfl)
        simp [putRow, mapBlock, Sort.ahead, Array.getElem?_modify, this]
    · have hl2 : (L.sortA l).length = l.length := (L.sort_rise l ha).2.length_eq
      have hb2 : (sortWorldK encA 2 w g 0 n d os).heap[g]? = some (.cells (putCells id 0 (flatK encA 2 d) cur) 143 (0, 0)) := by
        show (grow (putRow id (Sort.ahead w n) g 0 (flatK encA 2 d)) os).heap[g]? = _
        rw [heap_grow_old _ _ (by simpa using lt_of_block hh)]
        simp [putRow, mapBlock, Sort.ahead, Array.getElem?_modify, hh, onCells]
      refine ⟨by rw [encL_length], .inr ⟨g, cap, _, by rw [hl2], hg, hb2, by rw [hl2]; exact hn, hcap, by simp [putCells, hcs], ?_⟩⟩
      rw [← hF, hl2]
      apply List.ext_getElem?
      intro j
      by_cases hj : j < l.length * 2
      · have j2 : j < cur.size := by rw [hcs]; have := Nat.mul_le_mul_right 2 hn; omega
        have j3 : j < (flatK encA 2 d).size := by simp; omega
        rw [List.getElem?_take_of_lt hj, Array.getElem?_toList, Array.getElem?_toList]
        simp only [putCells, Array.getElem?_mapIdx, Array.getElem?_eq_getElem j2, Array.getElem?_eq_getElem j3]
        simp only [Option.map_some, Nat.zero_le, true_and, Nat.zero_add, if_pos j3, Nat.sub_zero, id]
        rw [getElem!_pos (flatK encA 2 d) j j3]
      · rw [List.getElem?_take_eq_none (by omega), List.getElem?_eq_none (by simp; omega)]
end
end Go.Proofs.YtmnegpdegfianaaGreatDoor
namespace Go.Proofs.YtmnegpdegfianaaGreatDoor
open Go.RowKit Go.Shelf
section
variable (W0 : Base) (b : Nat) (s : ByteArray) (j : Nat) (k : Int) (p : Nat) (nm tx : ByteArray) (l : List L.Attr)
def BadAt (e0 : Int) (w' : World) : Prop := ∃ (q : Nat) (v' : Value) (l' : List L.Attr), L.attrP s j l = .error ((q : Int), e0) ∧ RD W0 b s q k p nm tx v' l' w'
def GoodAt (w' : World) : Prop := ∃ (a : L.Attr) (n : Nat) (v' : Value), L.attrP s j l = .ok (a, n) ∧ RD W0 b s n k p nm tx v' (l ++ [a]) w'
def S1 (w' : World) : Prop := ∃ v', RD W0 b s (L.runP L.wordB s j) k p nm tx v' (l ++ [(s.extract j (L.runP L.wordB s j), L.noB)]) w'
def S2 (w' : World) : Prop := ∃ v', RD W0 b s (L.runP L.wordB s j + 1) k p nm tx v' (l ++ [(s.extract j (L.runP L.wordB s j), L.noB)]) w'
abbrev ptrV : Value := .pointer (some ⟨b, 0, none⟩)
def M1 (e0 : Int) (P : World → Prop) (w : World) : Prop := Calls Tryz.prog 162 #[.pointer (some ⟨b, 0, none⟩)] w fun e w' => e = .returned (.int .i64 e0) ∧ P w'
def M2 (e0 : Int) (P : World → Prop) (w : World) : Prop := Calls Tryz.prog 163 #[.pointer (some ⟨b, 0, none⟩)] w fun e w' => e = .returned (.int .i64 e0) ∧ P w'
def M3 (e0 : Int) (P : World → Prop) (w : World) : Prop := Calls Tryz.prog 164 #[.pointer (some ⟨b, 0, none⟩)] w fun e w' => e = .returned (.int .i64 e0) ∧ P w'
end
section
variable {W0 : Base} {b : Nat} {s : ByteArray} {j : Nat} {k : Int} {p : Nat} {nm tx : ByteArray} {v : Value} {l : List L.Attr} {w : World}
theorem attr_three (R : RD W0 b s j k p nm tx v l w) (hj : j ≤ s.size) (hz : s.size ≤ 140737488351232) (hl : l.length ≤ 20) :
    (∃ e1, e1 ≠ 0 ∧ M1 b e1 (BadAt W0 b s j k p nm tx l e1) w) ∨
    (M1 b 0 (S1 W0 b s j k p nm tx l) w ∧
      ((∃ e2, e2 ≠ 0 ∧ ∀ w', S1 W0 b s j k p nm tx l w' → M2 b e2 (BadAt W0 b s j k p nm tx l e2) w') ∨
        ((∀ w', S1 W0 b s j k p nm tx l w' → M2 b 0 (S2 W0 b s j k p nm tx l) w') ∧
          ((∃ e3, e3 ≠ 0 ∧ ∀ w', S2 W0 b s j k p nm tx l w' → M3 b e3 (BadAt W0 b s j k p nm tx l e3) w') ∨
            (∀ w', S2 W0 b s j k p nm tx l w' → M3 b 0 (GoodAt W0 b s j k p nm tx l) w'))))) := by
  obtain ⟨t, HT⟩ : ∃ t, t = L.runP L.wordB s j := ⟨_, rfl⟩
  have t1 : j ≤ t := by rw [HT]; exact L.run_ge _ _ _
  have t2 : t ≤ s.size := by rw [HT]; exact L.run_le hj
  have hJ : Hid (L.runP L.wordB s j = t) := HT.symm
  cases h1 : L.nameP (s.extract j t) with
  | false =>
    refine .inl ⟨31, by decide, (att_name (hid R) hj hz t hJ (hid h1)).mono ?_⟩
    rintro e w' ⟨rfl, R'⟩
    exact ⟨rfl, j, v, l, by unfold L.attrP; simp only; rw [← HT, if_pos h1], R'⟩
  | true =>
    by_cases h2 : l.length = 20
    · refine .inl ⟨33, by decide, (att_many (hid R) hj hz t hJ (hid h1) h2).mono ?_⟩
      rintro e w' ⟨rfl, R'⟩
      exact ⟨rfl, j, v, l, by unfold L.attrP; simp only; rw [← HT, if_neg (by simp [h1]), if_pos (by omega)], R'⟩
    · have h2' : l.length < 20 := by omega
      cases h3 : l.any fun a => decide (a.1 = s.extract j t) with
      | true =>
        refine .inl ⟨32, by decide, (att_twice (hid R) hj hz t hJ (hid h1) h2' (hid h3)).mono ?_⟩
        rintro e w' ⟨rfl, R'⟩
        exact ⟨rfl, j, v, l, by unfold L.attrP; simp only; rw [← HT, if_neg (by simp [h1]), if_neg (by omega), if_pos h3], R'⟩
      | false =>
        refine .inr ⟨(att_ok (hid R) hj hz t hJ (hid h1) h2' (hid h3)).mono ?_, ?_⟩
        · rintro e w' ⟨rfl, v', R'⟩
          exact ⟨rfl, v', by rw [← HT]; exact R'⟩
        cases h4 : L.thereB s t [61] with
        | false =>
          refine .inl ⟨30, by decide, fun w1 ⟨v1, R1⟩ => ?_⟩
          rw [← HT] at R1
          refine (equals_no (hid R1) t2 (hid h4)).mono ?_
          rintro e w' ⟨rfl, R'⟩
          exact ⟨rfl, t, _, _, by unfold L.attrP; simp only; rw [← HT, if_neg (by simp [h1]), if_neg (by omega), if_neg (by rw [h3]; simp), if_pos h4], R'⟩
        | true =>
          have t3 := L.there_lt h4
          refine .inr ⟨fun w1 ⟨v1, R1⟩ => ?_, ?_⟩
          · rw [← HT] at R1
            refine (equals_yes (hid R1) t2 hz (hid h4)).mono ?_
            rintro e w' ⟨rfl, R'⟩
            exact ⟨rfl, _, by rw [← HT]; exact R'⟩
          cases h5 : L.thereB s (t + 1) [34] with
          | false =>
            refine .inl ⟨30, by decide, fun w1 ⟨v1, R1⟩ => ?_⟩
            rw [← HT] at R1
            refine (val_form (hid R1) t3 (hid h5)).mono ?_
            rintro e w' ⟨rfl, R'⟩
            exact ⟨rfl, t + 1, _, _, by unfold L.attrP; simp only; rw [← HT, if_neg (by simp [h1]), if_neg (by omega), if_neg (by rw [h3]; simp), if_neg (by simp [h4]), if_pos h5], R'⟩
          | true =>
            have t4 := L.there_lt h5
            obtain ⟨q, HQ⟩ : ∃ q, q = L.runP (L.notB 34) s (t + 2) := ⟨_, rfl⟩
            have q2 : q ≤ s.size := by rw [HQ]; exact L.run_le t4
            by_cases h6 : q < s.size
            · obtain ⟨u, n, e0, hu⟩ : ∃ u n e0, L.undoB true (s.extract (t + 1 + 1) q) = (u, n, e0) := ⟨_, _, _, rfl⟩
              have hu' : L.undoB true (s.extract (t + 2) q) = (u, n, e0) := hu
              by_cases h7 : e0 = 0
              · subst h7
                by_cases h8 : 1500 < u.size
                · refine .inl ⟨34, by decide, fun w1 ⟨v1, R1⟩ => ?_⟩
                  rw [← HT] at R1
                  refine (val_long (hid R1) t3 hz (hid h5) q (hid HQ.symm) h6 u n (hid hu) h8).mono ?_
                  rintro e w' ⟨rfl, R'⟩
                  exact ⟨rfl, t + 1, _, _, by unfold L.attrP; simp only; rw [← HT, ← HQ, if_neg (by simp [h1]), if_neg (by omega), if_neg (by rw [h3]; simp), if_neg (by simp [h4]), if_neg (by simp [h5]), if_neg (by omega), if_neg (by rw [hu']; simp), if_pos (by rw [hu']; exact h8)], R'⟩
                · refine .inr fun w1 ⟨v1, R1⟩ => ?_
                  rw [← HT] at R1
                  refine (val_ok _ _ (hid R1) t3 hz (hid h5) q (hid HQ.symm) h6 u n (hid hu) (by omega) h2').mono ?_
                  rintro e w' ⟨rfl, R'⟩
                  exact ⟨rfl, (s.extract j t, u), q + 1, _, by unfold L.attrP; simp only; rw [← HT, ← HQ, if_neg (by simp [h1]), if_neg (by omega), if_neg (by rw [h3]; simp), if_neg (by simp [h4]), if_neg (by simp [h5]), if_neg (by omega), if_neg (by rw [hu']; simp), if_neg (by rw [hu']; exact h8), hu'], R'⟩
              · refine .inl ⟨e0, h7, fun w1 ⟨v1, R1⟩ => ?_⟩
                rw [← HT] at R1
                refine (val_bad (hid R1) t3 hz (hid h5) q (hid HQ.symm) h6 u n e0 (hid hu) h7).mono ?_
                rintro e w' ⟨rfl, R'⟩
                exact ⟨rfl, t + 1 + 1 + n, _, _, by unfold L.attrP; simp only; rw [← HT, ← HQ, if_neg (by simp [h1]), if_neg (by omega), if_neg (by rw [h3]; simp), if_neg (by simp [h4]), if_neg (by simp [h5]), if_neg (by omega), if_pos (by rw [hu']; exact h7), hu'], R'⟩
            · have hq : q = s.size := by omega
              refine .inl ⟨30, by decide, fun w1 ⟨v1, R1⟩ => ?_⟩
              rw [← HT] at R1
              refine (val_end (hid R1) t3 hz (hid h5) (hid (by show L.runP (L.notB 34) s (t + 2) = _; rw [← HQ, hq]))).mono ?_
              rintro e w' ⟨rfl, R'⟩
              exact ⟨rfl, s.size, _, _, by unfold L.attrP; simp only; rw [← HT, ← HQ, if_neg (by simp [h1]), if_neg (by omega), if_neg (by rw [h3]; simp), if_neg (by simp [h4]), if_neg (by simp [h5]), if_pos (by omega), hq], R'⟩
end
end Go.Proofs.YtmnegpdegfianaaGreatDoor
namespace Go.Proofs.YtmnegpdegfianaaGreatDoor
open Go.RowKit Go.Shelf
/-- What is told, and left, behind attributes. -/
def AttrsPost (W0 : Base) (b : Nat) (s : ByteArray) (k : Int) (p : Nat) (nm tx : ByteArray) (res : Except L.Bad (List L.Attr × Nat)) (e : Ending) (w' : World) : Prop :=
  (∃ (q : Nat) (e0 : Int) (v' : Value) (l' : List L.Attr), res = .error ((q : Int), e0) ∧ e = .returned (.int .i64 e0) ∧ e0 ≠ 0 ∧ RD W0 b s q k p nm tx v' l' w') ∨
  (∃ (acc : List L.Attr) (n : Nat) (v' : Value), res = .ok (acc, n) ∧ e = .returned (.int .i64 0) ∧ RD W0 b s n k p nm tx v' (L.sortA acc) w')
def funcs3 (b : Nat) : Obj := .cells #[.func (.func 162) #[.pointer (some ⟨b, 0, none⟩)] #[], .func (.func 163) #[.pointer (some ⟨b, 0, none⟩)] #[], .func (.func 164) #[.pointer (some ⟨b, 0, none⟩)] #[]] 151 (0, 0)
section
variable {W0 : Base} {b : Nat} {s : ByteArray} {i : Nat} {k : Int} {p : Nat} {nm tx : ByteArray} {v : Value} {l : List L.Attr} {w : World}
theorem RD.guards (R : RD W0 b s i k p nm tx v l w) (o : Obj) : RD ⟨W0.W, (w.heap.size, o) :: W0.K⟩ b s i k p nm tx v l (w.alloc o) :=
  (R.new o).guard w.heap.size o (heap_alloc_new w o) (by have := R.lt; omega) R.own
theorem RD.f3 {W : World} {c : Nat} {K : List (Nat × Obj)} (R : RD ⟨W, (c, funcs3 b) :: K⟩ b s i k p nm tx v l w) : w.heap[c]? = some (funcs3 b) := (R.keep _ (List.mem_cons_self ..)).1
set_option maxRecDepth 100000 in
set_option maxHeartbeats 4000000 in
theorem attributes_any (R : Hid (RD W0 b s i k p nm tx v l w)) (hi : i ≤ s.size) (hz : s.size ≤ 140737488351232) (ha : L.Apart l) (hl : l.length ≤ 20) (f : Nat) (hf : s.size - i < f) (res : Except L.Bad (List L.Attr × Nat)) (H : Hid (L.attrsF f s i l = res)) :
    Calls Tryz.prog 126 #[.pointer (some ⟨b, 0, none⟩)] w (AttrsPost W0 b s k p nm tx res) := by
  have HA := hid ha
  clear ha
  go_enter Tryz.func126, Tryz.ntmps126
  go_wp2_with fail
  refine scope_named fun F HF => ?_
  refine wp_scope_land F HF.out 0 1 (fun _ _ => False) (fun _ _ => 0) ((congrFun HF.out 0).trans rfl) ?_ (fun _ _ h => h.elim)
  go_wp2_with fail
  go_loopw [3] (fun v3 W => ∃ (j g : Nat) (v' : Value) (l' : List L.Attr), v3 = .int .i64 0 ∧ j ≤ s.size ∧ s.size - j < g ∧ l'.length ≤ 20 ∧ Hid (L.attrsF g s j l' = res) ∧ Hid (L.Apart l') ∧ Hid (RD W0 b s j k p nm tx v' l' W)) (fun _ W => s.size - atOf b W)
  case atStart => exact ⟨i, f, v, l, rfl, hi, hf, hl, H, HA, R⟩
  case round =>
    clear H HA R hi hf hl
    obtain ⟨j, g, v', l', rfl, hj, hg, hl, H, HA, RJ⟩ := hrel
    obtain ⟨j', HJ⟩ : ∃ j', Hid (L.runP L.blankB s j = j') := ⟨_, hid rfl⟩
    have j1 : j ≤ j' := by rw [← HJ.out]; exact L.run_ge _ _ _
    have j2 : j' ≤ s.size := by rw [← HJ.out]; exact L.run_le hj
    go_wp2_with fail
    refine (more_any RJ hj hz j' HJ).mono ?_
    rintro e w1 ⟨rfl, R1⟩
    cases hm : L.moreB s j j' with
    | false =>
      have R2 := hid R1
      clear R1
      have c6 := R2.out.cell 6
      simp only [List.getElem?_toArray, List.getElem?_cons_zero, List.getElem?_cons_succ] at c6
      have HR : Hid (res = .ok (l', j')) := by show _ = _; rw [← H.out, L.attrs_stop (by omega) (by rw [HJ.out]; exact hm), HJ.out]
      go_wp2_with fail
      refine (sort_any R2.out HA.out hl).mono ?_
      rintro e w2 ⟨rfl, R3⟩
      have R4 := hid R3
      clear R3 c6
      go_wp2
      go_step3
      go_wp2
      rw [landQ_other _ (by simp)]
      go_ret
      exact Or.inr ⟨l', j', v', HR.out, rfl, R4.out⟩
    | true =>
      have HM : Hid (L.moreB s j (L.runP L.blankB s j) = true) := hid (by rw [HJ.out]; exact hm)
      clear hm
      have R2 := hid (R1.guards (funcs3 b))
      clear R1
      have lt1 : Hid (b < w1.heap.size) := hid (by have := R2.out.low; have h2 := R2.out.keep _ (List.mem_cons_self ..); have h3 := R2.out.lt; simp only [World.size_alloc] at h3; have h4 : w1.heap.size ≠ b := h2.2.1; omega)
      have bad : ∀ (e0 : Int) (w' : World), e0 ≠ 0 → BadAt ⟨W0.W, (w1.heap.size, funcs3 b) :: W0.K⟩ b s j' k p nm tx l' e0 w' → AttrsPost W0 b s k p nm tx res (.returned (.int .i64 e0)) w' := by
        rintro e0 w' h0 ⟨q, v2, l2, h1, h2⟩
        exact Or.inl ⟨q, e0, v2, l2, by rw [← H.out, L.attrs_bad (by omega) HM.out (by rw [HJ.out]; exact h1)], rfl, h0, h2.free⟩
      have BAD := hid bad
      clear bad
      rcases attr_three R2.out j2 hz hl with ⟨e1, he1, m1⟩ | ⟨m1, h2⟩
      · have E1 := hid he1
        have b1 : (e1 == 0) = false := beq_eq_false_iff_ne.2 he1
        have N1 := hid m1
        clear he1 m1
        go_wp2
        refine wp_loop_rounds 4 ?_
        rw [rounds_succ]
        go_wp2_with fail
        refine Calls.mono N1.out ?_
        rintro e w2 ⟨rfl, hb⟩
        have HB := hid hb
        clear hb
        go_wp2
        go_step3
        refine Or.inr ⟨_, (congrFun HF.out 0).trans rfl, ?_⟩
        go_wp2
        rw [landQ_other _ (by simp)]
        go_ret
        exact BAD.out e1 w2 E1.out HB.out
      have N1 := hid m1
      clear m1
      rcases h2 with ⟨e2, he2, m2⟩ | ⟨m2, h3⟩
      · have E2 := hid he2
        have b2 : (e2 == 0) = false := beq_eq_false_iff_ne.2 he2
        have N2 := hid m2
        clear he2 m2
        go_wp2
        refine wp_loop_rounds 4 ?_
        rw [rounds_succ]
        go_wp2_with fail
        refine Calls.mono N1.out ?_
        rintro e w2 ⟨rfl, hb⟩
        have d1 : w2.cell? ⟨w1.heap.size, 1, none⟩ = some (.func (.func 163) #[.pointer (some ⟨b, 0, none⟩)] #[]) := by obtain ⟨_, R5⟩ := hb; exact cell_of_row _ _ 1 _ _ _ R5.f3
        have HB := hid hb
        clear hb
        go_wp2
        rw [rounds_succ]
        go_wp2_with fail
        refine Calls.mono (N2.out _ HB.out) ?_
        rintro e w3 ⟨rfl, hb⟩
        have HB3 := hid hb
        clear hb
        go_wp2
        go_step3
        refine Or.inr ⟨_, (congrFun HF.out 0).trans rfl, ?_⟩
        go_wp2
        rw [landQ_other _ (by simp)]
        go_ret
        exact BAD.out e2 w3 E2.out HB3.out
      have N2 := hid m2
      clear m2
      rcases h3 with ⟨e3, he3, m3⟩ | m3
      · have E3 := hid he3
        have b3 : (e3 == 0) = false := beq_eq_false_iff_ne.2 he3
        have N3 := hid m3
        clear he3 m3
        go_wp2
        refine wp_loop_rounds 4 ?_
        rw [rounds_succ]
        go_wp2_with fail
        refine Calls.mono N1.out ?_
        rintro e w2 ⟨rfl, hb⟩
        have d1 : w2.cell? ⟨w1.heap.size, 1, none⟩ = some (.func (.func 163) #[.pointer (some ⟨b, 0, none⟩)] #[]) := by obtain ⟨_, R5⟩ := hb; exact cell_of_row _ _ 1 _ _ _ R5.f3
        have HB := hid hb
        clear hb
        go_wp2
        rw [rounds_succ]
        go_wp2_with fail
        refine Calls.mono (N2.out _ HB.out) ?_
        rintro e w3 ⟨rfl, hb⟩
        have d2 : w3.cell? ⟨w1.heap.size, 2, none⟩ = some (.func (.func 164) #[.pointer (some ⟨b, 0, none⟩)] #[]) := by obtain ⟨_, R5⟩ := hb; exact cell_of_row _ _ 2 _ _ _ R5.f3
        have HB3 := hid hb
        clear hb
        go_wp2
        rw [rounds_succ]
        go_wp2_with fail
        refine Calls.mono (N3.out _ HB3.out) ?_
        rintro e w4 ⟨rfl, hb⟩
        have HB4 := hid hb
        clear hb
        go_wp2
        go_step3
        refine Or.inr ⟨_, (congrFun HF.out 0).trans rfl, ?_⟩
        go_wp2
        rw [landQ_other _ (by simp)]
        go_ret
        exact BAD.out e3 w4 E3.out HB4.out
      · have N3 := hid m3
        clear m3
        go_wp2
        refine wp_loop_rounds 4 ?_
        rw [rounds_succ]
        go_wp2_with fail
        refine Calls.mono N1.out ?_
        rintro e w2 ⟨rfl, hb⟩
        have d1 : w2.cell? ⟨w1.heap.size, 1, none⟩ = some (.func (.func 163) #[.pointer (some ⟨b, 0, none⟩)] #[]) := by obtain ⟨_, R5⟩ := hb; exact cell_of_row _ _ 1 _ _ _ R5.f3
        have HB := hid hb
        clear hb
        go_wp2
        rw [rounds_succ]
        go_wp2_with fail
        refine Calls.mono (N2.out _ HB.out) ?_
        rintro e w3 ⟨rfl, hb⟩
        have d2 : w3.cell? ⟨w1.heap.size, 2, none⟩ = some (.func (.func 164) #[.pointer (some ⟨b, 0, none⟩)] #[]) := by obtain ⟨_, R5⟩ := hb; exact cell_of_row _ _ 2 _ _ _ R5.f3
        have HB3 := hid hb
        clear hb
        go_wp2
        rw [rounds_succ]
        go_wp2_with fail
        refine Calls.mono (N3.out _ HB3.out) ?_
        rintro e w4 ⟨rfl, hb⟩
        obtain ⟨a, n, v4, hA, R7⟩ := hb
        have HP : Hid (L.attrP s j' l' = .ok (a, n)) := hid hA
        have R8 := hid R7.free
        have m1 := Hid.out (hid RJ.out.atOf)
        have m2 := R7.atOf
        have ng := L.attr_go hA
        have nl := (L.attr_ok hA).2.1
        have HN : Hid (L.attrsF (g - 1) s n (l' ++ [a]) = res) := hid (by rw [← H.out, L.attrs_next (by omega) HM.out (by rw [HJ.out]; exact hA)])
        have HA2 : Hid (L.Apart (l' ++ [a])) := hid (L.apart_snoc HA.out (L.attr_apart hA))
        have M1' := hid m1
        have M2' := hid m2
        clear hA R7 m1 m2
        go_wp2
        rw [rounds_succ]
        go_wp2
        go_roundw
        case rel => exact ⟨n, g - 1, v4, l' ++ [a], rfl, by omega, by omega, by simp; omega, HN, HA2, R8⟩
        case measure => rw [M1'.out, M2'.out]; omega
end
end Go.Proofs.YtmnegpdegfianaaGreatDoor
namespace Go.Proofs.YtmnegpdegfianaaGreatDoor
open Go.RowKit Go.Shelf
abbrev meth (f : Nat) (b : Nat) : Value := .func (.func f) #[.pointer (some ⟨b, 0, none⟩)] #[]
def funcsE (b : Nat) : Obj := .cells #[meth 123 b, meth 124 b, meth 125 b] 151 (0, 0)
def funcsB (b : Nat) : Obj := .cells #[meth 123 b, meth 126 b, meth 127 b, meth 125 b] 151 (0, 0)
def funcsT (b : Nat) : Obj := .cells #[meth 128 b] 151 (0, 0)
theorem size_set (w : World) (a : Addr) (u : Value) : (w.setCell a u).heap.size = w.heap.size := by simp
section
variable {W0 : Base} {b : Nat} {s : ByteArray} {i : Nat} {k : Int} {p : Nat} {nm tx : ByteArray} {v : Value} {l : List L.Attr} {w : World}
theorem RD.fn {W : World} {c : Nat} {o : Obj} {K : List (Nat × Obj)} (R : RD ⟨W, (c, o) :: K⟩ b s i k p nm tx v l w) : w.heap[c]? = some o := (R.keep _ (List.mem_cons_self ..)).1
set_option maxRecDepth 100000 in
set_option maxHeartbeats 1000000 in
theorem parts_end (R : Hid (RD W0 b s i k p nm tx v l w)) (hi : i ≤ s.size) (hz : s.size ≤ 140737488351232) (H : Hid (L.thereB s i [60, 47] = true)) :
    Calls Tryz.prog 87 #[.pointer (some ⟨b, 0, none⟩)] w fun e w' => ∃ c, e = .returned (.slice (some ⟨c, 0, none⟩) 3 3) ∧ RD ⟨W0.W, (c, funcsE b) :: W0.K⟩ b s (i + 2) 2 p nm tx v l w' := by
  go_enter Tryz.func87, Tryz.ntmps87
  go_wp2_with fail
  refine (passes_yes R hi hz ⟨#[60, 47]⟩ H).mono ?_
  rintro e w1 ⟨rfl, R1⟩
  have R2 := hid R1
  clear R1
  have c2 := R2.out.cell 2
  have f2 := R2.out.frozen 2
  simp only [List.getElem?_toArray, List.getElem?_cons_zero, List.getElem?_cons_succ] at c2
  have R3 := hid (R2.out.set 2 (.int .i64 2) (s' := s) (i' := i + 2) (k' := 2) (p' := p) (nm' := nm) (tx' := tx) rfl)
  go_wp2
  go_ret
  exact ⟨_, rfl, by have h := R3.out.guards (funcsE b); rw [size_set] at h; exact h⟩
set_option maxRecDepth 100000 in
set_option maxHeartbeats 1000000 in
theorem parts_beg (R : Hid (RD W0 b s i k p nm tx v l w)) (hi : i ≤ s.size) (hz : s.size ≤ 140737488351232) (H : Hid (L.thereB s i [60, 47] = false)) (H2 : Hid (L.thereB s i [60] = true)) :
    Calls Tryz.prog 87 #[.pointer (some ⟨b, 0, none⟩)] w fun e w' => ∃ c, e = .returned (.slice (some ⟨c, 0, none⟩) 4 4) ∧ RD ⟨W0.W, (c, funcsB b) :: W0.K⟩ b s (i + 1) 1 p nm tx v l w' := by
  go_enter Tryz.func87, Tryz.ntmps87
  go_wp2_with fail
  refine (passes_no R hi ⟨#[60, 47]⟩ H).mono ?_
  rintro e w1 ⟨rfl, R1⟩
  have R1' := hid R1
  clear R1
  go_wp2_with fail
  refine (passes_yes R1' hi hz ⟨#[60]⟩ H2).mono ?_
  rintro e w2 ⟨rfl, R2'⟩
  have R2 := hid R2'
  clear R2'
  have c2 := R2.out.cell 2
  have f2 := R2.out.frozen 2
  simp only [List.getElem?_toArray, List.getElem?_cons_zero, List.getElem?_cons_succ] at c2
  have R3 := hid (R2.out.set 2 (.int .i64 1) (s' := s) (i' := i + 1) (k' := 1) (p' := p) (nm' := nm) (tx' := tx) rfl)
  go_wp2
  go_ret
  exact ⟨_, rfl, by have h := R3.out.guards (funcsB b); rw [size_set] at h; exact h⟩
set_option maxRecDepth 100000 in
set_option maxHeartbeats 1000000 in
theorem parts_txt (R : Hid (RD W0 b s i k p nm tx v l w)) (hi : i ≤ s.size) (H : Hid (L.thereB s i [60, 47] = false)) (H2 : Hid (L.thereB s i [60] = false)) :
    Calls Tryz.prog 87 #[.pointer (some ⟨b, 0, none⟩)] w fun e w' => ∃ c, e = .returned (.slice (some ⟨c, 0, none⟩) 1 1) ∧ RD ⟨W0.W, (c, funcsT b) :: W0.K⟩ b s i 4 p nm tx v l w' := by
  go_enter Tryz.func87, Tryz.ntmps87
  go_wp2_with fail
  refine (passes_no R hi ⟨#[60, 47]⟩ H).mono ?_
  rintro e w1 ⟨rfl, R1⟩
  have R1' := hid R1
  clear R1
  go_wp2_with fail
  refine (passes_no R1' hi ⟨#[60]⟩ H2).mono ?_
  rintro e w2 ⟨rfl, R2'⟩
  have R2 := hid R2'
  clear R2'
  have c2 := R2.out.cell 2
  have f2 := R2.out.frozen 2
  simp only [List.getElem?_toArray, List.getElem?_cons_zero, List.getElem?_cons_succ] at c2
  have R3 := hid (R2.out.set 2 (.int .i64 4) (s' := s) (i' := i) (k' := 4) (p' := p) (nm' := nm) (tx' := tx) rfl)
  go_wp2
  go_ret
  exact ⟨_, rfl, by have h := R3.out.guards (funcsT b); rw [size_set] at h; exact h⟩
end
end Go.Proofs.YtmnegpdegfianaaGreatDoor
namespace Go.Proofs.YtmnegpdegfianaaGreatDoor
open Go.RowKit Go.Shelf
def tokV (t : L.Tok) (v : Value) : Value := .agg #[.int .i64 t.kind, .int .i64 (t.pos : Int), .string t.name, .string t.text, v]
def zeroT : Value := .agg #[.int .i64 0, .int .i64 0, .string ⟨#[]⟩, .string ⟨#[]⟩, .slice none 0 0]
/-- What is told, and left, behind One. -/
def OnePost (w : World) (res : Except L.Bad (L.Tok × Nat)) (e : Ending) (w' : World) : Prop :=
  Below w.heap.size w w' ∧
  ((∃ (q e0 : Int), res = .error (q, e0) ∧ e0 ≠ 0 ∧ e = .returned (.tuple #[zeroT, .int .i64 0, .int .i64 q, .int .i64 e0])) ∨
   (∃ (t : L.Tok) (n : Nat) (v : Value), res = .ok (t, n) ∧ e = .returned (.tuple #[tokV t v, .int .i64 (n : Int), .int .i64 0, .int .i64 0]) ∧ w'.ownsRow w.heap.size 143 2 v t.attrs.length (encL t.attrs)))
def zeroObj : Obj := .cells #[.int .i64 0, .int .i64 0, .string ⟨#[]⟩, .string ⟨#[]⟩, .slice none 0 0] 92 (0, 0)
set_option maxRecDepth 100000 in
set_option maxHeartbeats 4000000 in
theorem one_out (s : ByteArray) (z : Int) (w : World) (h : z < 0 ∨ (s.size : Int) ≤ z) :
    Calls Tryz.prog 47 #[.string s, .int .i64 z] w (OnePost w (L.oneP s z)) := by
  have HR : Hid (L.oneP s z = .error (z, 30)) := by show _ = _; unfold L.oneP; rw [if_pos h]
  rcases h with h | h
  · go_enter Tryz.func47, Tryz.ntmps47
    go_wp2_with fail
    refine scope_named fun F HF => ?_
    refine wp_scope_land F HF.out 0 1 (fun _ _ => False) (fun _ _ => 0) ((congrFun HF.out 0).trans rfl) ?_ (fun _ _ h => h.elim)
    go_wp2
    go_step3
    refine Or.inr ⟨_, (congrFun HF.out 0).trans rfl, ?_⟩
    go_wp2
    go_region
    all_goals
      go_wp2
      rw [landQ_other _ (by simp)]
      refine bodyPost_ret (v := .tuple #[zeroT, .int .i64 0, .int .i64 z, .int .i64 30]) (by simp [results, Tryz.results47, go_sem, zeroT]) rfl ⟨((((Below.refl _ _).alloc (Nat.le_refl _) _).alloc (by simp) _).drew), Or.inl ⟨z, 30, HR.out, by decide, rfl⟩⟩
  · go_enter Tryz.func47, Tryz.ntmps47
    go_wp2_with fail
    refine scope_named fun F HF => ?_
    refine wp_scope_land F HF.out 0 1 (fun _ _ => False) (fun _ _ => 0) ((congrFun HF.out 0).trans rfl) ?_ (fun _ _ h => h.elim)
    have h0 : ¬ z < 0 := by omega
    go_wp2
    go_step3
    refine Or.inr ⟨_, (congrFun HF.out 0).trans rfl, ?_⟩
    go_wp2
    go_region
    all_goals
      go_wp2
      rw [landQ_other _ (by simp)]
      refine bodyPost_ret (v := .tuple #[zeroT, .int .i64 0, .int .i64 z, .int .i64 30]) (by simp [results, Tryz.results47, go_sem, zeroT]) rfl ⟨((((Below.refl _ _).alloc (Nat.le_refl _) _).alloc (by simp) _).drew), Or.inl ⟨z, 30, HR.out, by decide, rfl⟩⟩
end Go.Proofs.YtmnegpdegfianaaGreatDoor
