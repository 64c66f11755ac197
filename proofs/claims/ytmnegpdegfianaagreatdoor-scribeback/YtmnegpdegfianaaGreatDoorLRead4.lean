/- The walk of the reader's attribute: an attribute's name is read, and laid behind the others. -/
import Derived.Test.YtmnegpdegfianaaGreatDoorLRead3
import Derived.Test.YtmnegpdegfianaaGreatDoorLSort
import Derived.Deep.RegionLaw
import Derived.Deep.AppendLies
namespace Go.Proofs.YtmnegpdegfianaaGreatDoor
open Go.RowKit Go.Shelf
theorem str_eq (a b : ByteArray) : (a.toList == b.toList) = decide (a = b) := by
  rw [ByteArray.toList_eq, ByteArray.toList_eq]
  by_cases h : a = b
  · subst h; simp
  · have : a.data ≠ b.data := fun q => h (by cases a; cases b; simp_all)
    simp [h, this]
theorem encL_length (l : List L.Attr) : (encL l).length = l.length * 2 := by
  induction l with
  | nil => rfl
  | cons a l ih => simp only [encL, List.flatMap_cons, List.length_append, List.length_cons] at *; rw [ih]; simp [encA]; omega
theorem encL_snoc (l : List L.Attr) (a : L.Attr) : encL (l ++ [a]) = encL l ++ encA a := by simp [encL]
theorem encL_at : ∀ (l : List L.Attr) (j : Nat) (hj : j < l.length), (encL l)[j * 2]? = some (.string l[j].1) ∧ (encL l)[j * 2 + 1]? = some (.string l[j].2)
  | a :: l, 0, _ => by simp [encL, encA]
  | a :: l, j + 1, hj => by
    have := encL_at l j (by simpa using hj)
    have e1 : (j + 1) * 2 = j * 2 + 1 + 1 := by omega
    simp only [encL, List.flatMap_cons, encA, List.cons_append, List.nil_append, e1, List.getElem?_cons_succ] at *
    simpa using this
set_option maxRecDepth 100000 in
set_option maxHeartbeats 400000 in
theorem has_any (x : L.Attr) (n : ByteArray) (B : Nat) (W : World) (hc : W.cell? ⟨B, 0, none⟩ = some (.string n)) :
    Calls Tryz.prog 184 #[.agg #[.string x.1, .string x.2], .pointer (some ⟨B, 0, none⟩)] W fun e w' => e = .returned (.bool (decide (x.1 = n))) ∧ Below W.heap.size W w' := by
  have hB : B < W.heap.size := by
    by_cases h : B < W.heap.size
    · exact h
    · rw [World.cell?, Array.getElem?_eq_none (by show _ ≤ B; omega)] at hc; simp at hc
  have hn : B ≠ W.heap.size := by omega
  have SE := str_eq x.1 n
  go_enter Tryz.func184, Tryz.ntmps184
  go_wp2
  go_ret
  refine ⟨ret_bool (by simp), (Below.refl _ _).alloc (Nat.le_refl _) _⟩
set_option maxRecDepth 100000 in
set_option maxHeartbeats 400000 in
theorem contains_nil (f : Value) (w : World) :
    Calls Tryz.prog 183 #[.slice none 0 0, f] w fun e w' => e = .returned (.bool false) ∧ w' = w := by
  have h : ∀ w, Calls Tryz.prog 194 #[.slice none 0 0, f] w fun e w' => e = .returned (.int .i64 (-1)) ∧ w' = w := by
    intro w
    go_enter Tryz.func194, Tryz.ntmps194
    go_wp2
    refine wp_loop_rounds 1 ?_
    rw [rounds_succ]
    go_wp2
    go_ret
    exact ⟨rfl, rfl⟩
  have H := hid h
  clear h
  go_enter Tryz.func183, Tryz.ntmps183
  go_wp2_with fail
  refine (H.out _).mono ?_
  rintro e w1 ⟨rfl, rfl⟩
  go_wp2
  go_ret
  exact ⟨rfl, rfl⟩
/-- slices.ContainsFunc over a reader's attributes, with the closure that asks for a name. -/
theorem contains_any (b : Nat) (v : Value) (l : List L.Attr) (w : World) (hrow : AttrsAt b v l w) (n : ByteArray) (B : Nat) (hc : w.cell? ⟨B, 0, none⟩ = some (.string n)) (hB : B < w.heap.size) (hl : l.length ≤ 20) :
    Calls Tryz.prog 183 #[v, .func (.func 184) #[] #[.pointer (some ⟨B, 0, none⟩)]] w fun e w' => e = .returned (.bool (l.any fun a => decide (a.1 = n))) ∧ Below w.heap.size w w' := by
  have hrow' := hrow
  rcases hrow.2 with ⟨rfl, h0⟩ | ⟨g, cap, cur, rfl, hg, hh, hn, _, _, ht⟩
  · have : l = [] := List.length_eq_zero_iff.1 h0
    subst this
    refine (contains_nil _ w).mono ?_
    rintro e w1 ⟨rfl, rfl⟩
    exact ⟨rfl, Below.refl _ _⟩
  · have hgl := lt_of_block hh
    have h := AnyQ.slices_ContainsFunc (P := Tryz.prog) laysCf 2 Tryz.isAgg143 Tryz.sizeOf143 encA (fun _ => rfl) (fun a => decide (a.1 = n)) 184 #[.pointer (some ⟨B, 0, none⟩)]
      (enters_of Tryz.func184 (by kernel_rfl) rfl) g 0 l.length cap l w
      (fun W x hb => by
        have := has_any x n B W (by rw [hb.cell (p := ⟨B, 0, none⟩) hB]; exact hc)
        refine this.mono ?_
        rintro e w1 ⟨rfl, hb1⟩
        exact ⟨rfl, hb.trans (hb1.mono hb.size)⟩) (Nat.le_refl _) (by omega) hgl
      (fun j hj i u hu => by
        have ha := encL_at l j hj
        have hj' : l[j]! = l[j] := getElem!_pos l j hj
        have hi : i = 0 ∨ i = 1 := by
          have := (List.getElem?_eq_some_iff.1 hu).1
          simp [encA] at this
          omega
        rcases hi with rfl | rfl
        · rw [hj'] at hu
          simp only [encA, List.getElem?_cons_zero] at hu
          rw [show 0 + j * 2 + 0 = j * 2 by omega, World.ownsRow.cellAt hrow' _ (by omega), ha.1, hu]
        · rw [hj'] at hu
          simp only [encA, List.getElem?_cons_succ, List.getElem?_cons_zero] at hu
          rw [show 0 + j * 2 + 1 = j * 2 + 1 by omega, World.ownsRow.cellAt hrow' _ (by omega), ha.2, hu])
    rw [List.take_length] at h
    exact h
theorem one_two (a c : ByteArray) : ∀ u ∈ [Value.string a, .string c], u.oneCell' = true := by
  intro u hu
  simp only [List.mem_cons, List.not_mem_nil, or_false] at hu
  rcases hu with rfl | rfl <;> rfl
theorem infoA : (Tryz.prog.info? 143).map (fun i => (i.zero, i.size, i.bytes)) = some (some (.agg #[.string ⟨#[]⟩, .string ⟨#[]⟩]), 2, 32) := by kernel_rfl
section
variable {W0 : Base} {b : Nat} {s : ByteArray} {i : Nat} {k : Int} {p : Nat} {nm tx : ByteArray} {v : Value} {l : List L.Attr} {w : World}
theorem RD.new (R : RD W0 b s i k p nm tx v l w) (o : Obj) : RD W0 b s i k p nm tx v l (w.alloc o) := R.below ((Below.refl _ _).alloc (Nat.le_refl _) o)
theorem RD.own (R : RD W0 b s i k p nm tx v l w) : v.ownBlock ≠ some w.heap.size := by
  intro q
  have := (World.ownsRow.lt R.row _ q).2
  omega
set_option maxRecDepth 100000 in
set_option maxHeartbeats 1000000 in
theorem att_name (R : Hid (RD W0 b s i k p nm tx v l w)) (hi : i ≤ s.size) (hz : s.size ≤ 140737488351232) (j : Nat) (HJ : Hid (L.runP L.wordB s i = j)) (H : Hid (L.nameP (s.extract i j) = false)) :
    Calls Tryz.prog 162 #[.pointer (some ⟨b, 0, none⟩)] w fun e w' => e = .returned (.int .i64 31) ∧ RD W0 b s i k p nm tx v l w' := by
  have j2 : j ≤ s.size := by rw [← HJ.out]; exact L.run_le hi
  have HS : Hid ((s.extract i j).size ≤ s.size) := by show _ ≤ _; simp; omega
  go_enter Tryz.func162, Tryz.ntmps162
  go_wp2_with fail
  refine (word_any R hi hz).mono ?_
  rintro e w1 ⟨rfl, m, rfl⟩
  have R1 := hid (R.out.drewN m)
  rw [HJ.out]
  clear R
  generalize w.drewN m = w1 at R1 ⊢
  go_wp2_with fail
  have R2 := hid (R1.out.new (.cells #[.string (s.extract i j)] 9))
  refine (name_any _ false _ R2.out.tabw (by have := HS.out; unfold maxLen; omega) H).mono ?_
  rintro e w2 ⟨rfl, hb2⟩
  have R3 := hid (R2.out.below hb2)
  clear hb2
  go_wp2
  go_ret
  exact ⟨rfl, R3.out⟩
set_option maxRecDepth 100000 in
set_option maxHeartbeats 1000000 in
theorem att_many (R : Hid (RD W0 b s i k p nm tx v l w)) (hi : i ≤ s.size) (hz : s.size ≤ 140737488351232) (j : Nat) (HJ : Hid (L.runP L.wordB s i = j)) (H : Hid (L.nameP (s.extract i j) = true)) (hl : l.length = 20) :
    Calls Tryz.prog 162 #[.pointer (some ⟨b, 0, none⟩)] w fun e w' => e = .returned (.int .i64 33) ∧ RD W0 b s i k p nm tx v l w' := by
  have j2 : j ≤ s.size := by rw [← HJ.out]; exact L.run_le hi
  have HS : Hid ((s.extract i j).size ≤ s.size) := by show _ ≤ _; simp; omega
  obtain ⟨g, cap, rfl⟩ : ∃ g cap, v = .slice (some ⟨g, 0, none⟩) 20 cap := by
    rcases R.out.row.2 with ⟨_, h⟩ | ⟨g, cap, _, h, _⟩
    · omega
    · exact ⟨g, cap, by rw [h, hl]⟩
  have HL := hid hl
  clear hl
  go_enter Tryz.func162, Tryz.ntmps162
  go_wp2_with fail
  refine (word_any R hi hz).mono ?_
  rintro e w1 ⟨rfl, m, rfl⟩
  have R1 := hid (R.out.drewN m)
  rw [HJ.out]
  clear R
  generalize w.drewN m = w1 at R1 ⊢
  go_wp2_with fail
  have R2 := hid (R1.out.new (.cells #[.string (s.extract i j)] 9))
  refine (name_any _ true _ R2.out.tabw (by have := HS.out; unfold maxLen; omega) H).mono ?_
  rintro e w2 ⟨rfl, hb2⟩
  have R3 := hid (R2.out.below hb2)
  clear hb2
  have c6 := R3.out.cell 6
  simp only [List.getElem?_toArray, List.getElem?_cons_zero, List.getElem?_cons_succ] at c6
  go_wp2
  go_ret
  exact ⟨rfl, R3.out⟩
/-- What is laid behind the attributes leaves the reader as it is; then its field is written. -/
theorem RD.grown (R : RD W0 b s i k p nm tx v l w) {w' : World} (hg : w.grownBy w' v.ownBlock) : w'.heap[b]? = some (rdObj s i k p nm tx v) ∧ Below W0.W.heap.size W0.W w' := by
  have h1 : ∀ k, v.ownBlock = some k → b < k := fun k hk => (World.ownsRow.lt R.row k hk).1
  refine ⟨?_, R.bel.grown hg (Nat.le_of_lt (Nat.lt_of_le_of_lt R.low R.lt)) fun k hk => Nat.le_of_lt (Nat.lt_of_le_of_lt R.low (h1 k hk))⟩
  rw [hg.block b R.lt (fun q => Nat.lt_irrefl _ (h1 b q.symm))]
  exact R.obj
theorem RD.turn (R : RD W0 b s i k p nm tx v l w) {w' : World} (hg : w.grownBy w' v.ownBlock) {v' : Value} {l' : List L.Attr} (hrow : AttrsAt b v' l' w') (hv : ∀ c, v'.ownBlock = some c → v.ownBlock = some c ∨ w.heap.size ≤ c) : RD W0 b s i k p nm tx v' l' (w'.setCell ⟨b, 6, none⟩ v') := by
  obtain ⟨h1, h2⟩ := R.grown hg
  exact ⟨R.tab, R.low, h2.setCell (p := ⟨b, 6, none⟩) R.low v', by rw [heap_setCell_same w' b 6 _ _ v' h1]; rfl, ownsRow_setCell_below hrow (Nat.lt_succ_self b) v', fun c hc => by
    obtain ⟨k1, k2, k3⟩ := R.keep c hc
    have k4 := lt_of_block k1
    refine ⟨?_, k2, fun q => ?_⟩
    · rw [heap_setCell_other w' ⟨b, 6, none⟩ c.1 v' k2, hg.block c.1 k4 (fun q => k3 q.symm)]; exact k1
    · rcases hv c.1 q with h | h
      · exact k3 h
      · omega⟩
theorem cell_new (w : World) (x : Value) (t : TypeId) : (w.alloc (.cells #[x] t)).cell? ⟨w.heap.size, 0, none⟩ = some x := by
  rw [cell_of_row _ w.heap.size 0 #[x] t (0, 0) (heap_alloc_new w _)]
  rfl
set_option maxRecDepth 100000 in
set_option maxHeartbeats 1000000 in
theorem att_twice (R : Hid (RD W0 b s i k p nm tx v l w)) (hi : i ≤ s.size) (hz : s.size ≤ 140737488351232) (j : Nat) (HJ : Hid (L.runP L.wordB s i = j)) (H : Hid (L.nameP (s.extract i j) = true)) (hl : l.length < 20) (HA : Hid ((l.any fun a => decide (a.1 = s.extract i j)) = true)) :
    Calls Tryz.prog 162 #[.pointer (some ⟨b, 0, none⟩)] w fun e w' => e = .returned (.int .i64 32) ∧ RD W0 b s i k p nm tx v l w' := by
  have j2 : j ≤ s.size := by rw [← HJ.out]; exact L.run_le hi
  have HS : Hid ((s.extract i j).size ≤ s.size) := by show _ ≤ _; simp; omega
  obtain ⟨g, cap, rfl⟩ : ∃ g cap, v = .slice (some ⟨g, 0, none⟩) l.length cap := by
    rcases R.out.row.2 with ⟨_, h⟩ | ⟨g, cap, _, h, _⟩
    · have : l = [] := List.length_eq_zero_iff.1 h
      subst this
      exact absurd HA.out (by simp)
    · exact ⟨g, cap, h⟩
  have b20 : ((l.length : Int) == 20) = false := beq_eq_false_iff_ne.2 (by omega)
  go_enter Tryz.func162, Tryz.ntmps162
  go_wp2_with fail
  refine (word_any R hi hz).mono ?_
  rintro e w1 ⟨rfl, m, rfl⟩
  have R1 := hid (R.out.drewN m)
  rw [HJ.out]
  clear R
  generalize w.drewN m = w1 at R1 ⊢
  go_wp2_with fail
  have R2 := hid (R1.out.new (.cells #[.string (s.extract i j)] 9))
  refine (name_any _ true _ R2.out.tabw (by have := HS.out; unfold maxLen; omega) H).mono ?_
  rintro e w2 ⟨rfl, hb2⟩
  have R3 := hid (R2.out.below hb2)
  have cB : w2.cell? ⟨w1.heap.size, 0, none⟩ = some (.string (s.extract i j)) := by rw [hb2.cell (p := ⟨w1.heap.size, 0, none⟩) (by simp)]; exact cell_new _ _ _
  have hB : w1.heap.size < w2.heap.size := by have := hb2.size; simp at this; omega
  clear hb2
  have c6 := R3.out.cell 6
  simp only [List.getElem?_toArray, List.getElem?_cons_zero, List.getElem?_cons_succ] at c6
  go_wp2_with fail
  refine (contains_any b _ l w2 R3.out.row _ w1.heap.size cB hB (by omega)).mono ?_
  rw [HA.out]
  rintro e w3 ⟨rfl, hb3⟩
  have R4 := hid (R3.out.below hb3)
  clear hb3 cB
  go_wp2
  go_ret
  exact ⟨rfl, R4.out⟩
set_option maxRecDepth 100000 in
set_option maxHeartbeats 1000000 in
theorem att_ok (R : Hid (RD W0 b s i k p nm tx v l w)) (hi : i ≤ s.size) (hz : s.size ≤ 140737488351232) (j : Nat) (HJ : Hid (L.runP L.wordB s i = j)) (H : Hid (L.nameP (s.extract i j) = true)) (hl : l.length < 20) (HA : Hid ((l.any fun a => decide (a.1 = s.extract i j)) = false)) :
    Calls Tryz.prog 162 #[.pointer (some ⟨b, 0, none⟩)] w fun e w' => e = .returned (.int .i64 0) ∧ ∃ v', RD W0 b s j k p nm tx v' (l ++ [(s.extract i j, L.noB)]) w' := by
  obtain ⟨i0, hi0, hz0, hz1, hz2⟩ := info_parts infoA
  have I0 := hid hi0
  have I1 := hid hz0
  have I2 := hid hz1
  have I3 := hid hz2
  clear hi0 hz0 hz1 hz2
  have j1 : i ≤ j := by rw [← HJ.out]; exact L.run_ge _ _ _
  have j2 : j ≤ s.size := by rw [← HJ.out]; exact L.run_le hi
  have HS : Hid ((s.extract i j).size = j - i) := by show _ = _; simp; omega
  obtain ⟨g, cap, rfl⟩ : ∃ g cap, v = .slice g l.length cap := by
    rcases R.out.row.2 with ⟨h, h'⟩ | ⟨g, cap, _, h, _⟩
    · exact ⟨none, 0, by rw [h, h']⟩
    · exact ⟨_, cap, h⟩
  have b20 : ((l.length : Int) == 20) = false := beq_eq_false_iff_ne.2 (by omega)
  go_enter Tryz.func162, Tryz.ntmps162
  go_wp2_with fail
  refine (word_any R hi hz).mono ?_
  rintro e w1 ⟨rfl, m, rfl⟩
  have R1 := hid (R.out.drewN m)
  rw [HJ.out]
  clear R
  generalize w.drewN m = w1 at R1 ⊢
  go_wp2_with fail
  have R2 := hid (R1.out.new (.cells #[.string (s.extract i j)] 9))
  refine (name_any _ true _ R2.out.tabw (by rw [HS.out]; unfold maxLen; omega) H).mono ?_
  rintro e w2 ⟨rfl, hb2⟩
  have R3 := hid (R2.out.below hb2)
  have cB : w2.cell? ⟨w1.heap.size, 0, none⟩ = some (.string (s.extract i j)) := by rw [hb2.cell (p := ⟨w1.heap.size, 0, none⟩) (by simp)]; exact cell_new _ _ _
  have hB : w1.heap.size < w2.heap.size := by have := hb2.size; simp at this; omega
  have nB : Hid (b < w1.heap.size ∧ (Value.slice g l.length cap).ownBlock ≠ some w1.heap.size) := ⟨R1.out.lt, R1.out.own⟩
  clear hb2
  have c6 := R3.out.cell 6
  simp only [List.getElem?_toArray, List.getElem?_cons_zero, List.getElem?_cons_succ] at c6
  go_wp2_with fail
  refine (contains_any b _ l w2 R3.out.row _ w1.heap.size cB hB (by omega)).mono ?_
  rw [HA.out]
  rintro e w3 ⟨rfl, hb3⟩
  have R4 := hid (R3.out.below hb3)
  have dB : w3.cell? ⟨w1.heap.size, 0, none⟩ = some (.string (s.extract i j)) := by rw [hb3.cell (p := ⟨w1.heap.size, 0, none⟩) hB]; exact cB
  have hB3 : w1.heap.size < w3.heap.size := by have := hb3.size; omega
  have d6 := R4.out.cell 6
  have f6 := R4.out.frozen 6
  simp only [List.getElem?_toArray, List.getElem?_cons_zero, List.getElem?_cons_succ] at d6
  clear hb3 cB c6
  generalize w1.heap.size = B at *
  have ne1 : B ≠ w3.heap.size := by omega
  have ne2 : b ≠ w3.heap.size := by have := R4.out.lt; omega
  have HO : Hid ((w3.alloc (Obj.cells #[.string (s.extract i j), .string ⟨#[]⟩] 143)).drew.ownsRow (b + 1) 143 2 (.slice g l.length cap) l.length (encL l)) := (R4.out.new _).row
  have HN : Hid (∀ q u, [Value.string (s.extract i j), .string ⟨#[]⟩][q]? = some u → (w3.alloc (Obj.cells #[.string (s.extract i j), .string ⟨#[]⟩] 143)).drew.cell? ((⟨w3.heap.size, 0, none⟩ : Addr).add q) = some u) :=
    World.news_of_block (w := (w3.alloc (Obj.cells #[.string (s.extract i j), .string ⟨#[]⟩] 143)).drew) (cs := #[.string (s.extract i j), .string ⟨#[]⟩]) (heap_alloc_new w3 _)
  have a6 : (w3.alloc (Obj.cells #[.string (s.extract i j), .string ⟨#[]⟩] 143)).cell? ⟨b, 6, none⟩ = some (.slice g l.length cap) := by rw [World.cell?_alloc_past _ _ _ R4.out.lt]; exact d6
  have hm : Hid (l.length + 1 ≤ maxLen ∧ b + 1 ≤ w3.heap.size + 1) := ⟨by unfold maxLen; omega, by have := R4.out.lt; omega⟩
  go_wp2
  go_region_law (
    refine step_append_lies _ rfl (.tmp 31) (.tmp 34) 44 rfl (b + 1) 143 i0 (.agg #[.string ⟨#[]⟩, .string ⟨#[]⟩]) 2 32 Tryz.underlying44 I0.out I1.out I2.out I3.out rfl (by decide) _ l.length (encL l) rfl HO.out ⟨w3.heap.size, 0, none⟩ 1 1 [.string (s.extract i j), .string ⟨#[]⟩] rfl rfl HN.out (one_two _ _) (by decide) hm.out.1 (by omega) (by simpa using hm.out.2) (w3.heap.size + 1) (by simp) ?_
    intro g' cap' w4 hown hgrow hgl _
    have G4 := hid ((R4.out.new (.cells #[.string (s.extract i j), .string ⟨#[]⟩] 143)).drewN 1 |>.grown hgrow)
    have T4 := hid ((R4.out.new (.cells #[.string (s.extract i j), .string ⟨#[]⟩] 143)).drewN 1 |>.turn hgrow (l' := l ++ [(s.extract i j, L.noB)]) (by rw [AttrsAt, encL_snoc, List.length_append]; exact hown) (fun c hc => by
      have hc' : g' = c := by simpa [Value.ownBlock] using hc
      rcases hgl with h | h
      · left; rw [← hc']; exact h
      · right; show (w3.alloc _).heap.size ≤ c; simp; omega))
    have e6 : w4.cell? ⟨b, 6, none⟩ = some (.slice g l.length cap) := cell_of_row w4 b 6 _ _ _ G4.out.1
    have h6 : w4.frozen? ⟨b, 6, none⟩ = false := frozen_of_row w4 b 6 _ _ G4.out.1
    have e1 : w4.cell? ⟨b, 1, none⟩ = some (.int .i64 (i : Int)) := cell_of_row w4 b 1 _ _ _ G4.out.1
    have h1 : w4.frozen? ⟨b, 1, none⟩ = false := frozen_of_row w4 b 1 _ _ G4.out.1
    have eB : w4.cell? ⟨B, 0, none⟩ = some (.string (s.extract i j)) := by
      rw [hgrow.cell_far ⟨B, 0, none⟩ (by show B < _; simp; omega) (fun q => nB.out.2 q.symm)]
      show (w3.alloc _).cell? _ = _
      rw [World.cell?_alloc_past _ _ _ hB3]
      exact dB
    clear hown hgrow hgl)
  all_goals
    go_wp2
    go_region
    all_goals
      go_wp2
      go_ret
      exact ⟨rfl, _, (T4.out.set 1 (.int .i64 ((i : Int) + ((j - i : Nat) : Int))) (i' := j) (by go_num)).drewN 1⟩
end
end Go.Proofs.YtmnegpdegfianaaGreatDoor
