/- The walk of the reader's attributes: all are read as the plain function says, and rise. -/
import Derived.Test.YtafjffnijonglaaGreatDoorLSorted
import Derived.Test.YtafjffnijonglaaGreatDoorEScope
namespace Go.Proofs.YtafjffnijonglaaGreatDoor
open Go.RowKit Go.Shelf
section
variable (W0 : Base) (b : Nat) (s : ByteArray) (j : Nat) (k : Int) (p : Nat) (nm tx : ByteArray) (l : List L.Attr)
def BadAt (e0 : Int) (w' : World) : Prop := ∃ (q : Nat) (v' : Value) (l' : List L.Attr), L.attrP s j l = .error ((q : Int), e0) ∧ RD W0 b s q k p nm tx v' l' w'
def GoodAt (w' : World) : Prop := ∃ (a : L.Attr) (n : Nat) (v' : Value), L.attrP s j l = .ok (a, n) ∧ RD W0 b s n k p nm tx v' (l ++ [a]) w'
def S1 (w' : World) : Prop := ∃ v', RD W0 b s (L.runP L.wordB s j) k p nm tx v' (l ++ [(s.extract j (L.runP L.wordB s j), L.noB)]) w'
def S2 (w' : World) : Prop := ∃ v', RD W0 b s (L.runP L.wordB s j + 1) k p nm tx v' (l ++ [(s.extract j (L.runP L.wordB s j), L.noB)]) w'
abbrev ptrV : Value := .pointer (some ⟨b, 0, none⟩)
def M1 (e0 : Int) (P : World → Prop) (w : World) : Prop := Calls Tryz.prog 56 #[.pointer (some ⟨b, 0, none⟩)] w fun e w' => e = .returned (.int .i64 e0) ∧ P w'
def M2 (e0 : Int) (P : World → Prop) (w : World) : Prop := Calls Tryz.prog 57 #[.pointer (some ⟨b, 0, none⟩)] w fun e w' => e = .returned (.int .i64 e0) ∧ P w'
def M3 (e0 : Int) (P : World → Prop) (w : World) : Prop := Calls Tryz.prog 58 #[.pointer (some ⟨b, 0, none⟩)] w fun e w' => e = .returned (.int .i64 e0) ∧ P w'
end
section
variable {W0 : Base} {b : Nat} {s : ByteArray} {j : Nat} {k : Int} {p : Nat} {nm tx : ByteArray} {v : Value} {l : List L.Attr} {w : World}
theorem attr_three (R : RD W0 b s j k p nm tx v l w) (hj : j ≤ s.size) (hz : s.size ≤ 140737488351232) (hl : l.length ≤ 20) :
    (∃ e1, e1 ≠ 0 ∧ M1 b e1 (BadAt W0 b s j k p nm tx l e1) w) ∨
    (M1 b 0 (S1 W0 b s j k p nm tx l) w ∧
      ((∃ e2, e2 ≠ 0 ∧ ∀ w', S1 W0 b s j k p nm tx l w' → M2 b e2 (BadAt W0 b s j k p nm tx l e2) w') ∨
        ((∀ w', S1 W0 b s j k p nm tx l w' → M2 b 0 (S2 W0 b s j k p nm tx l) w') ∧
          ((∃ e3, e3 ≠ 0 ∧ ∀ w', S2 W0 b s j k p nm tx l w' → M3 b e3 (BadAt W0 b s j k p nm tx l e3) w') ∨
            (∀ w', S2 W0 b s j k p nm tx l w' → M3 b 0 (GoodAt W0 b s j k p nm tx l) w'))))) := by
  obtain ⟨t, HT⟩ : ∃ t, t = L.runP L.wordB s j := ⟨_, rfl⟩
  have t1 : j ≤ t := by rw [HT]; exact L.run_ge _ _ _
  have t2 : t ≤ s.size := by rw [HT]; exact L.run_le hj
  have hJ : Hid (L.runP L.wordB s j = t) := HT.symm
  cases h1 : L.nameP (s.extract j t) with
  | false =>
    refine .inl ⟨31, by decide, (att_name (hid R) hj hz t hJ (hid h1)).mono ?_⟩
    rintro e w' ⟨rfl, R'⟩
    exact ⟨rfl, j, v, l, by unfold L.attrP; simp only; rw [← HT, if_pos h1], R'⟩
  | true =>
    by_cases h2 : l.length = 20
    · refine .inl ⟨33, by decide, (att_many (hid R) hj hz t hJ (hid h1) h2).mono ?_⟩
      rintro e w' ⟨rfl, R'⟩
      exact ⟨rfl, j, v, l, by unfold L.attrP; simp only; rw [← HT, if_neg (by simp [h1]), if_pos (by omega)], R'⟩
    · have h2' : l.length < 20 := by omega
      cases h3 : l.any fun a => decide (a.1 = s.extract j t) with
      | true =>
        refine .inl ⟨32, by decide, (att_twice (hid R) hj hz t hJ (hid h1) h2' (hid h3)).mono ?_⟩
        rintro e w' ⟨rfl, R'⟩
        exact ⟨rfl, j, v, l, by unfold L.attrP; simp only; rw [← HT, if_neg (by simp [h1]), if_neg (by omega), if_pos h3], R'⟩
      | false =>
        refine .inr ⟨(att_ok (hid R) hj hz t hJ (hid h1) h2' (hid h3)).mono ?_, ?_⟩
        · rintro e w' ⟨rfl, v', R'⟩
          exact ⟨rfl, v', by rw [← HT]; exact R'⟩
        cases h4 : L.thereB s t [61] with
        | false =>
          refine .inl ⟨30, by decide, fun w1 ⟨v1, R1⟩ => ?_⟩
          rw [← HT] at R1
          refine (equals_no (hid R1) t2 (hid h4)).mono ?_
          rintro e w' ⟨rfl, R'⟩
          exact ⟨rfl, t, _, _, by unfold L.attrP; simp only; rw [← HT, if_neg (by simp [h1]), if_neg (by omega), if_neg (by rw [h3]; simp), if_pos h4], R'⟩
        | true =>
          have t3 := L.there_lt h4
          refine .inr ⟨fun w1 ⟨v1, R1⟩ => ?_, ?_⟩
          · rw [← HT] at R1
            refine (equals_yes (hid R1) t2 hz (hid h4)).mono ?_
            rintro e w' ⟨rfl, R'⟩
            exact ⟨rfl, _, by rw [← HT]; exact R'⟩
          cases h5 : L.thereB s (t + 1) [34] with
          | false =>
            refine .inl ⟨30, by decide, fun w1 ⟨v1, R1⟩ => ?_⟩
            rw [← HT] at R1
            refine (val_form (hid R1) t3 (hid h5)).mono ?_
            rintro e w' ⟨rfl, R'⟩
            exact ⟨rfl, t + 1, _, _, by unfold L.attrP; simp only; rw [← HT, if_neg (by simp [h1]), if_neg (by omega), if_neg (by rw [h3]; simp), if_neg (by simp [h4]), if_pos h5], R'⟩
          | true =>
            have t4 := L.there_lt h5
            obtain ⟨q, HQ⟩ : ∃ q, q = L.runP (L.notB 34) s (t + 2) := ⟨_, rfl⟩
            have q2 : q ≤ s.size := by rw [HQ]; exact L.run_le t4
            by_cases h6 : q < s.size
            · obtain ⟨u, n, e0, hu⟩ : ∃ u n e0, L.undoB true (s.extract (t + 1 + 1) q) = (u, n, e0) := ⟨_, _, _, rfl⟩
              have hu' : L.undoB true (s.extract (t + 2) q) = (u, n, e0) := hu
              by_cases h7 : e0 = 0
              · subst h7
                by_cases h8 : 1500 < u.size
                · refine .inl ⟨34, by decide, fun w1 ⟨v1, R1⟩ => ?_⟩
                  rw [← HT] at R1
                  refine (val_long (hid R1) t3 hz (hid h5) q (hid HQ.symm) h6 u n (hid hu) h8).mono ?_
                  rintro e w' ⟨rfl, R'⟩
                  exact ⟨rfl, t + 1, _, _, by unfold L.attrP; simp only; rw [← HT, ← HQ, if_neg (by simp [h1]), if_neg (by omega), if_neg (by rw [h3]; simp), if_neg (by simp [h4]), if_neg (by simp [h5]), if_neg (by omega), if_neg (by rw [hu']; simp), if_pos (by rw [hu']; exact h8)], R'⟩
                · refine .inr fun w1 ⟨v1, R1⟩ => ?_
                  rw [← HT] at R1
                  refine (val_ok _ _ (hid R1) t3 hz (hid h5) q (hid HQ.symm) h6 u n (hid hu) (by omega) h2').mono ?_
                  rintro e w' ⟨rfl, R'⟩
                  exact ⟨rfl, (s.extract j t, u), q + 1, _, by unfold L.attrP; simp only; rw [← HT, ← HQ, if_neg (by simp [h1]), if_neg (by omega), if_neg (by rw [h3]; simp), if_neg (by simp [h4]), if_neg (by simp [h5]), if_neg (by omega), if_neg (by rw [hu']; simp), if_neg (by rw [hu']; exact h8), hu'], R'⟩
              · refine .inl ⟨e0, h7, fun w1 ⟨v1, R1⟩ => ?_⟩
                rw [← HT] at R1
                refine (val_bad (hid R1) t3 hz (hid h5) q (hid HQ.symm) h6 u n e0 (hid hu) h7).mono ?_
                rintro e w' ⟨rfl, R'⟩
                exact ⟨rfl, t + 1 + 1 + n, _, _, by unfold L.attrP; simp only; rw [← HT, ← HQ, if_neg (by simp [h1]), if_neg (by omega), if_neg (by rw [h3]; simp), if_neg (by simp [h4]), if_neg (by simp [h5]), if_neg (by omega), if_pos (by rw [hu']; exact h7), hu'], R'⟩
            · have hq : q = s.size := by omega
              refine .inl ⟨30, by decide, fun w1 ⟨v1, R1⟩ => ?_⟩
              rw [← HT] at R1
              refine (val_end (hid R1) t3 hz (hid h5) (hid (by show L.runP (L.notB 34) s (t + 2) = _; rw [← HQ, hq]))).mono ?_
              rintro e w' ⟨rfl, R'⟩
              exact ⟨rfl, s.size, _, _, by unfold L.attrP; simp only; rw [← HT, ← HQ, if_neg (by simp [h1]), if_neg (by omega), if_neg (by rw [h3]; simp), if_neg (by simp [h4]), if_neg (by simp [h5]), if_pos (by omega), hq], R'⟩
end
end Go.Proofs.YtafjffnijonglaaGreatDoor
