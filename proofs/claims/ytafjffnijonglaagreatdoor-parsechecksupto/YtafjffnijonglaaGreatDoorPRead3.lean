/- The walks of a draft's whole and take. -/
import Derived.Test.YtafjffnijonglaaGreatDoorPRead2
namespace Go.Proofs.YtafjffnijonglaaGreatDoor
open Go.RowKit Go.Shelf
section
variable {W0 : World} {b : Nat} {VI VN : Value} {its : List IV} {op : List ByteArray} {w : World}
set_option maxRecDepth 100000 in
set_option maxHeartbeats 1000000 in
theorem whole_any (R : Hid (DR W0 b VI VN its op w)) :
    Calls Tryz.prog 13 #[.pointer (some ⟨b, 0, none⟩)] w fun e w' => e = .returned (.int .i64 (if its.length = 0 then 40 else if op.length ≠ 0 then 41 else 0)) ∧ w' = w := by
  obtain ⟨aoI, capI, rfl⟩ := R.out.form
  obtain ⟨aoN, capN, rfl⟩ := R.out.formN
  have c0 := R.out.cell 0
  have c1 := R.out.cell 1
  simp only [List.getElem?_toArray, List.getElem?_cons_zero, List.getElem?_cons_succ] at c0 c1
  clear R
  generalize its.length = m at *
  generalize op.length = n at *
  by_cases hm : m = 0
  · subst hm
    go_enter Tryz.func13, Tryz.ntmps13
    go_wp2
    go_ret
    exact ⟨rfl, rfl⟩
  · rw [if_neg hm]
    have hm' : ((m : Int) == 0) = false := beq_eq_false_iff_ne.2 (by omega)
    by_cases hn : n = 0
    · subst hn
      clear hm
      go_enter Tryz.func13, Tryz.ntmps13
      go_wp2
      go_ret
      exact ⟨rfl, rfl⟩
    · rw [if_pos hn]
      have hn' : (0 : Int) < (n : Int) := by omega
      clear hm hn
      go_enter Tryz.func13, Tryz.ntmps13
      go_wp2
      go_ret
      exact ⟨rfl, rfl⟩
/-- A store into a block of items that is none of the draft's. -/
theorem DR.far (h : DR W0 b VI VN its op w) {c : Nat} {cs : Array Value} (hc : w.heap[c]? = some (.cells cs 34 (0, 0))) (h1 : W0.heap.size ≤ c) (h3 : VI.ownBlock ≠ some c) (j : Nat) (u : Value) : DR W0 b VI VN its op (w.setCell ⟨c, j, none⟩ u) := by
  refine ⟨h.tab, h.low, h.bel.setCell (p := ⟨c, j, none⟩) h1 u, ?_, ⟨?_, fun x hx => row_set (h.itm.2 x hx) hc (by decide)⟩, names_set h.nam hc (by decide)⟩
  · rw [heap_setCell_other w ⟨c, j, none⟩ b u (fun q => by
      have q' : b = c := q
      have := h.obj
      rw [q', hc] at this
      simp only [Option.some.injEq, Obj.cells.injEq] at this
      exact absurd this.2.1 (by decide))]
    exact h.obj
  · obtain ⟨h4, h5⟩ := h.itm.1
    refine ⟨h4, ?_⟩
    rcases h5 with h5 | ⟨g, cap, cur, rfl, h6, h7, h8⟩
    · exact Or.inl h5
    · refine Or.inr ⟨g, cap, cur, rfl, h6, ?_, h8⟩
      rw [heap_setCell_other w ⟨c, j, none⟩ g u (fun q => h3 (by have q' : g = c := q; simp [Value.ownBlock, q']))]
      exact h7
def TakePost (W0 : World) (b : Nat) (w : World) (res : Except Int (List P.Itm × List ByteArray)) (e : Ending) (w' : World) : Prop :=
  (∃ e0, res = .error e0 ∧ e0 ≠ 0 ∧ e = .returned (.int .i64 e0) ∧ Below W0.heap.size W0 w' ∧ ∀ c, c < w.heap.size → c ≠ b → w'.heap[c]? = w.heap[c]?) ∨
  (∃ VI' VN' its' op', res = .ok (its'.map (·.1), op') ∧ e = .returned (.int .i64 0) ∧ DR W0 b VI' VN' its' op' w')
theorem two_new (w : World) (o o' : Obj) : Below w.heap.size w ((w.alloc o).alloc o') := ((Below.refl _ _).alloc (Nat.le_refl _) o).alloc (by simp) o'
set_option maxRecDepth 100000 in
set_option maxHeartbeats 4000000 in
theorem take_end (R : Hid (DR W0 b VI VN its op w)) (t : L.Tok) (v : Value) (hv : ∃ ao nn cp, v = .slice ao nn cp) (hk : t.kind = 2) (ho : op.length ≤ 1048576) :
    Calls Tryz.prog 12 #[.pointer (some ⟨b, 0, none⟩), tokV t v] w (TakePost W0 b w (P.takeP (its.map (·.1)) op t)) := by
  obtain ⟨ao, nn, cp, rfl⟩ := hv
  obtain ⟨kd, ps, nm, tx, ats⟩ := t
  obtain rfl : kd = 2 := hk
  obtain ⟨aoN, capN, rfl⟩ := R.out.formN
  have c1 := R.out.cell 1
  simp only [List.getElem?_toArray, List.getElem?_cons_zero, List.getElem?_cons_succ] at c1
  have hb := R.out.lt
  have d1 : (w.alloc (.cells #[.int .i64 2, .int .i64 (ps : Int), .string nm, .string tx, .slice ao nn cp] 40)).cell? ⟨b, 1, none⟩ = some (.slice aoN op.length capN) := by rw [World.cell?_alloc_past _ _ _ hb]; exact c1
  have R2 := hid ((R.out.new (.cells #[.int .i64 2, .int .i64 (ps : Int), .string nm, .string tx, .slice ao nn cp] 40)).new (.cells #[.int .i64 (op.length : Int), .int .i64 2, .string ⟨#[]⟩, .string tx, .slice none 0 0] 34))
  have d2 := R2.out.cell 1
  have f2 := R2.out.frozen 1
  simp only [List.getElem?_toArray, List.getElem?_cons_zero, List.getElem?_cons_succ] at d2
  clear R c1
  unfold tokV
  go_enter Tryz.func12, Tryz.ntmps12
  go_wp2_with fail
  refine (closes_any R2.out.nam nm ho).mono ?_
  rintro e w1 ⟨rfl, rfl⟩
  cases hc : P.closesB op nm with
  | false =>
    have HR : Hid (P.takeP (its.map (·.1)) op ⟨2, ps, nm, tx, ats⟩ = .error 41) := hid (by simp [P.takeP, hc])
    clear hc
    have HK := hid (two_new w (.cells #[.int .i64 2, .int .i64 (ps : Int), .string nm, .string tx, .slice ao nn cp] 40) (.cells #[.int .i64 (op.length : Int), .int .i64 2, .string ⟨#[]⟩, .string tx, .slice none 0 0] 34))
    go_wp2
    go_ret
    exact Or.inl ⟨41, HR.out, by decide, rfl, R2.out.bel, fun c hc _ => HK.out.block c hc⟩
  | true =>
    have HR : Hid (P.takeP (its.map (·.1)) op ⟨2, ps, nm, tx, ats⟩ = .ok (its.map (·.1), op.dropLast)) := hid (by simp [P.takeP, hc])
    have hne : op ≠ [] := by rintro rfl; simp [P.closesB] at hc
    clear hc d1
    generalize ((w.alloc (.cells #[.int .i64 2, .int .i64 (ps : Int), .string nm, .string tx, .slice ao nn cp] 40)).alloc (.cells #[.int .i64 (op.length : Int), .int .i64 2, .string ⟨#[]⟩, .string tx, .slice none 0 0] 34)) = W1 at *
    go_wp2_with fail
    refine (outside_any R2.out.nam hne ho).mono ?_
    rintro e w1 ⟨V', rfl, hn, rfl⟩
    have R3 := hid (R2.out.setN hn)
    obtain ⟨ao', n', cap', rfl⟩ : ∃ ao n cap, V' = .slice ao n cap := by obtain ⟨ao', cap', h, _⟩ := hn.form; exact ⟨_, _, _, h⟩
    clear hn
    go_wp2
    go_ret
    exact Or.inr ⟨_, _, _, _, HR.out, rfl, R3.out⟩
set_option maxRecDepth 100000 in
set_option maxHeartbeats 4000000 in
theorem take_txt (R : Hid (DR W0 b VI VN its op w)) (t : L.Tok) (v : Value) (hv : ∃ ao nn cp, v = .slice ao nn cp) (hk : t.kind = 4) (hl : its.length ≤ 1048576) :
    Calls Tryz.prog 12 #[.pointer (some ⟨b, 0, none⟩), tokV t v] w (TakePost W0 b w (P.takeP (its.map (·.1)) op t)) := by
  obtain ⟨ao, nn, cp, rfl⟩ := hv
  obtain ⟨kd, ps, nm, tx, ats⟩ := t
  obtain rfl : kd = 4 := hk
  obtain ⟨aoN, capN, rfl⟩ := R.out.formN
  have c1 := R.out.cell 1
  simp only [List.getElem?_toArray, List.getElem?_cons_zero, List.getElem?_cons_succ] at c1
  have hb := R.out.lt
  have d1 : (w.alloc (.cells #[.int .i64 4, .int .i64 (ps : Int), .string nm, .string tx, .slice ao nn cp] 40)).cell? ⟨b, 1, none⟩ = some (.slice aoN op.length capN) := by rw [World.cell?_alloc_past _ _ _ hb]; exact c1
  have R2 := hid ((R.out.new (.cells #[.int .i64 4, .int .i64 (ps : Int), .string nm, .string tx, .slice ao nn cp] 40)).new (.cells #[.int .i64 (op.length : Int), .int .i64 2, .string ⟨#[]⟩, .string tx, .slice none 0 0] 34))
  clear R c1
  unfold tokV
  go_enter Tryz.func12, Tryz.ntmps12
  go_wp2_with fail
  by_cases he : P.addE its.length (P.itemOf op.length ⟨4, ps, nm, tx, ats⟩) = 0
  · have HR : Hid (P.takeP (its.map (·.1)) op ⟨4, ps, nm, tx, ats⟩ = .ok ((its ++ [((P.itemOf op.length ⟨4, ps, nm, tx, ats⟩, Value.slice none 0 0) : IV)]).map (fun y => y.1), op)) := hid (by simp [P.takeP, he])
    refine (add_ok R2 (P.itemOf op.length ⟨4, ps, nm, tx, ats⟩) (.slice none 0 0) ⟨_, _, _, rfl⟩ (hid (World.ownsRow_nil _ _ _ _)) hl (hid he)).mono ?_
    rintro e w1 ⟨rfl, VI', R3⟩
    have R4 := hid R3
    clear R3 he
    go_wp2
    go_ret
    exact Or.inr ⟨_, _, _, _, HR.out, rfl, R4.out⟩
  · have HR : Hid (P.takeP (its.map (·.1)) op ⟨4, ps, nm, tx, ats⟩ = .error (P.addE its.length (P.itemOf op.length ⟨4, ps, nm, tx, ats⟩))) := hid (by simp [P.takeP, he])
    refine (add_bad R2 (P.itemOf op.length ⟨4, ps, nm, tx, ats⟩) (.slice none 0 0) ⟨_, _, _, rfl⟩ hl _ (hid rfl) he).mono ?_
    rintro e w1 ⟨rfl, hb3⟩
    have HB := hid (R2.out.below hb3).bel
    have HK : Hid (∀ c, c < w.heap.size → c ≠ b → w1.heap[c]? = w.heap[c]?) := hid (fun c hc _ => by
      rw [hb3.block c (by simp; omega)]
      exact (two_new w (.cells #[.int .i64 4, .int .i64 (ps : Int), .string nm, .string tx, .slice ao nn cp] 40) (.cells #[.int .i64 (op.length : Int), .int .i64 2, .string ⟨#[]⟩, .string tx, .slice none 0 0] 34)).block c hc)
    have HN := hid he
    clear hb3 he
    generalize P.addE its.length (P.itemOf op.length ⟨4, ps, nm, tx, ats⟩) = e0 at *
    go_wp2
    go_ret
    exact Or.inl ⟨_, HR.out, HN.out, rfl, HB.out, HK.out⟩
set_option maxRecDepth 100000 in
set_option maxHeartbeats 4000000 in
theorem take_both (R : Hid (DR W0 b VI VN its op w)) (t : L.Tok) (v : Value) (hv : ∃ ao nn cp, v = .slice ao nn cp) (HA : Hid (w.ownsRow W0.heap.size 67 2 v t.attrs.length (encL t.attrs))) (hk : t.kind = 3) (hl : its.length ≤ 1048576) :
    Calls Tryz.prog 12 #[.pointer (some ⟨b, 0, none⟩), tokV t v] w (TakePost W0 b w (P.takeP (its.map (·.1)) op t)) := by
  obtain ⟨ao, nn, cp, rfl⟩ := hv
  obtain ⟨kd, ps, nm, tx, ats⟩ := t
  obtain rfl : kd = 3 := hk
  obtain ⟨aoN, capN, rfl⟩ := R.out.formN
  have c1 := R.out.cell 1
  simp only [List.getElem?_toArray, List.getElem?_cons_zero, List.getElem?_cons_succ] at c1
  have hb := R.out.lt
  have d1 : (w.alloc (.cells #[.int .i64 3, .int .i64 (ps : Int), .string nm, .string tx, .slice ao nn cp] 40)).cell? ⟨b, 1, none⟩ = some (.slice aoN op.length capN) := by rw [World.cell?_alloc_past _ _ _ hb]; exact c1
  have A2 : Hid (((w.alloc (.cells #[.int .i64 3, .int .i64 (ps : Int), .string nm, .string tx, .slice ao nn cp] 40)).alloc (.cells #[.int .i64 (op.length : Int), .int .i64 1, .string nm, .string ⟨#[]⟩, .slice ao nn cp] 34)).ownsRow W0.heap.size 67 2 (.slice ao nn cp) ats.length (encL ats)) := hid (World.ownsRow.alloc (World.ownsRow.alloc HA.out _) _)
  have R2 := hid ((R.out.new (.cells #[.int .i64 3, .int .i64 (ps : Int), .string nm, .string tx, .slice ao nn cp] 40)).new (.cells #[.int .i64 (op.length : Int), .int .i64 1, .string nm, .string ⟨#[]⟩, .slice ao nn cp] 34))
  clear R c1 HA
  unfold tokV
  go_enter Tryz.func12, Tryz.ntmps12
  go_wp2_with fail
  by_cases he : P.addE its.length (P.itemOf op.length ⟨3, ps, nm, tx, ats⟩) = 0
  · have HR : Hid (P.takeP (its.map (·.1)) op ⟨3, ps, nm, tx, ats⟩ = .ok ((its ++ [((P.itemOf op.length ⟨3, ps, nm, tx, ats⟩, Value.slice ao nn cp) : IV)]).map (fun y => y.1), op)) := hid (by simp [P.takeP, he])
    refine (add_ok R2 (P.itemOf op.length ⟨3, ps, nm, tx, ats⟩) (.slice ao nn cp) ⟨_, _, _, rfl⟩ A2 hl (hid he)).mono ?_
    rintro e w1 ⟨rfl, VI', R3⟩
    have R4 := hid R3
    clear R3 he
    go_wp2
    go_ret
    exact Or.inr ⟨_, _, _, _, HR.out, rfl, R4.out⟩
  · have HR : Hid (P.takeP (its.map (·.1)) op ⟨3, ps, nm, tx, ats⟩ = .error (P.addE its.length (P.itemOf op.length ⟨3, ps, nm, tx, ats⟩))) := hid (by simp [P.takeP, he])
    refine (add_bad R2 (P.itemOf op.length ⟨3, ps, nm, tx, ats⟩) (.slice ao nn cp) ⟨_, _, _, rfl⟩ hl _ (hid rfl) he).mono ?_
    rintro e w1 ⟨rfl, hb3⟩
    have HB := hid (R2.out.below hb3).bel
    have HK : Hid (∀ c, c < w.heap.size → c ≠ b → w1.heap[c]? = w.heap[c]?) := hid (fun c hc _ => by
      rw [hb3.block c (by simp; omega)]
      exact (two_new w (.cells #[.int .i64 3, .int .i64 (ps : Int), .string nm, .string tx, .slice ao nn cp] 40) (.cells #[.int .i64 (op.length : Int), .int .i64 1, .string nm, .string ⟨#[]⟩, .slice ao nn cp] 34)).block c hc)
    have HN := hid he
    clear hb3 he
    generalize P.addE its.length (P.itemOf op.length ⟨3, ps, nm, tx, ats⟩) = e0 at *
    go_wp2
    go_ret
    exact Or.inl ⟨_, HR.out, HN.out, rfl, HB.out, HK.out⟩
set_option maxRecDepth 100000 in
set_option maxHeartbeats 4000000 in
theorem take_beg (R : Hid (DR W0 b VI VN its op w)) (t : L.Tok) (v : Value) (hv : ∃ ao nn cp, v = .slice ao nn cp) (HA : Hid (w.ownsRow W0.heap.size 67 2 v t.attrs.length (encL t.attrs))) (hk : t.kind = 1) (ho : op.length ≤ 1048575) (hl : its.length ≤ 1048576) :
    Calls Tryz.prog 12 #[.pointer (some ⟨b, 0, none⟩), tokV t v] w (TakePost W0 b w (P.takeP (its.map (·.1)) op t)) := by
  obtain ⟨ao, nn, cp, rfl⟩ := hv
  obtain ⟨kd, ps, nm, tx, ats⟩ := t
  obtain rfl : kd = 1 := hk
  obtain ⟨aoN, capN, rfl⟩ := R.out.formN
  have c1 := R.out.cell 1
  simp only [List.getElem?_toArray, List.getElem?_cons_zero, List.getElem?_cons_succ] at c1
  have hb := R.out.lt
  have hown : VI.ownBlock ≠ some (w.heap.size + 1) := fun q => by have := (World.ownsRow.lt R.out.itm.1 _ q).2; omega
  have d1 : (w.alloc (.cells #[.int .i64 1, .int .i64 (ps : Int), .string nm, .string tx, .slice ao nn cp] 40)).cell? ⟨b, 1, none⟩ = some (.slice aoN op.length capN) := by rw [World.cell?_alloc_past _ _ _ hb]; exact c1
  have A2 : Hid (((w.alloc (.cells #[.int .i64 1, .int .i64 (ps : Int), .string nm, .string tx, .slice ao nn cp] 40)).alloc (.cells #[.int .i64 (op.length : Int), .int .i64 2, .string ⟨#[]⟩, .string tx, .slice none 0 0] 34)).ownsRow W0.heap.size 67 2 (.slice ao nn cp) ats.length (encL ats)) := hid (World.ownsRow.alloc (World.ownsRow.alloc HA.out _) _)
  have R2 := hid ((R.out.new (.cells #[.int .i64 1, .int .i64 (ps : Int), .string nm, .string tx, .slice ao nn cp] 40)).new (.cells #[.int .i64 (op.length : Int), .int .i64 2, .string ⟨#[]⟩, .string tx, .slice none 0 0] 34))
  have bT : Hid (((w.alloc (.cells #[.int .i64 1, .int .i64 (ps : Int), .string nm, .string tx, .slice ao nn cp] 40)).alloc (.cells #[.int .i64 (op.length : Int), .int .i64 2, .string ⟨#[]⟩, .string tx, .slice none 0 0] 34)).heap[w.heap.size]? = some (.cells #[.int .i64 1, .int .i64 (ps : Int), .string nm, .string tx, .slice ao nn cp] 40 (0, 0))) := hid (by rw [Below.heap_alloc _ _ _ (by simp)]; exact heap_alloc_new w _)
  have bI : Hid (((w.alloc (.cells #[.int .i64 1, .int .i64 (ps : Int), .string nm, .string tx, .slice ao nn cp] 40)).alloc (.cells #[.int .i64 (op.length : Int), .int .i64 2, .string ⟨#[]⟩, .string tx, .slice none 0 0] 34)).heap[w.heap.size + 1]? = some (.cells #[.int .i64 (op.length : Int), .int .i64 2, .string ⟨#[]⟩, .string tx, .slice none 0 0] 34 (0, 0))) := hid (by
    have h := heap_alloc_new (w.alloc (.cells #[.int .i64 1, .int .i64 (ps : Int), .string nm, .string tx, .slice ao nn cp] 40)) (.cells #[.int .i64 (op.length : Int), .int .i64 2, .string ⟨#[]⟩, .string tx, .slice none 0 0] 34)
    simpa using h)
  have hW : W0.heap.size ≤ w.heap.size + 1 := by have := R.out.bel.size; omega
  clear R c1 HA
  unfold tokV
  go_enter Tryz.func12, Tryz.ntmps12
  go_wp2_with fail
  refine (with_any R2.out.nam nm (by omega) (by have := R2.out.bel.size; exact this)).mono ?_
  rintro e w1 ⟨V', rfl, hn, hb1⟩
  have R3 := hid ((R2.out.below hb1).setN hn)
  have A3 := hid (row_below A2.out hb1)
  have oB := hid (R2.out.below hb1).obj
  have K1 : Hid (∀ c, c < w.heap.size → w1.heap[c]? = w.heap[c]?) := hid (fun c hc => by
    rw [hb1.block c (by simp; omega)]
    exact (two_new w (.cells #[.int .i64 1, .int .i64 (ps : Int), .string nm, .string tx, .slice ao nn cp] 40) (.cells #[.int .i64 (op.length : Int), .int .i64 2, .string ⟨#[]⟩, .string tx, .slice none 0 0] 34)).block c hc)
  have nB : b < w.heap.size := hb
  have bT1 := hid ((hb1.block _ (lt_of_block bT.out)).trans bT.out)
  have bI1 := hid ((hb1.block _ (lt_of_block bI.out)).trans bI.out)
  obtain ⟨ao', n', cap', rfl⟩ : ∃ ao n cap, V' = .slice ao n cap := by obtain ⟨ao', cap', h, _⟩ := hn.form; exact ⟨_, _, _, h⟩
  have o1 := (R2.out.below hb1).cell 1
  have o2 := (R2.out.below hb1).frozen 1
  simp only [List.getElem?_toArray, List.getElem?_cons_zero, List.getElem?_cons_succ] at o1
  clear hn hb1 R2 bT bI A2 d1 hb
  generalize hB : w.heap.size = B at *
  have HS := hid hB
  clear hB
  have x2 : w1.cell? ⟨B, 2, none⟩ = some (.string nm) := by rw [cell_of_row _ B 2 _ _ _ bT1.out]; rfl
  have x4 : w1.cell? ⟨B, 4, none⟩ = some (.slice ao nn cp) := by rw [cell_of_row _ B 4 _ _ _ bT1.out]; rfl
  have ne1 : b ≠ B := by omega
  have ne2 : b ≠ B + 1 := by omega
  have i0 : w1.cell? ⟨B + 1, 0, none⟩ = some (.int .i64 (op.length : Int)) := by rw [cell_of_row _ (B + 1) 0 _ _ _ bI1.out]; rfl
  have i1 : w1.cell? ⟨B + 1, 1, none⟩ = some (.int .i64 2) := by rw [cell_of_row _ (B + 1) 1 _ _ _ bI1.out]; rfl
  have i2 : w1.cell? ⟨B + 1, 2, none⟩ = some (.string ⟨#[]⟩) := by rw [cell_of_row _ (B + 1) 2 _ _ _ bI1.out]; rfl
  have i3 : w1.cell? ⟨B + 1, 3, none⟩ = some (.string tx) := by rw [cell_of_row _ (B + 1) 3 _ _ _ bI1.out]; rfl
  have i4 : w1.cell? ⟨B + 1, 4, none⟩ = some (.slice none 0 0) := by rw [cell_of_row _ (B + 1) 4 _ _ _ bI1.out]; rfl
  have j0 : w1.frozen? ⟨B + 1, 0, none⟩ = false := frozen_of_row _ (B + 1) 0 _ _ bI1.out
  have j1 : w1.frozen? ⟨B + 1, 1, none⟩ = false := frozen_of_row _ (B + 1) 1 _ _ bI1.out
  have j2 : w1.frozen? ⟨B + 1, 2, none⟩ = false := frozen_of_row _ (B + 1) 2 _ _ bI1.out
  have j3 : w1.frozen? ⟨B + 1, 3, none⟩ = false := frozen_of_row _ (B + 1) 3 _ _ bI1.out
  have j4 : w1.frozen? ⟨B + 1, 4, none⟩ = false := frozen_of_row _ (B + 1) 4 _ _ bI1.out
  have s0 : (w1.setCell ⟨b, 1, none⟩ (.slice ao' n' cap')).heap[B + 1]? = some (.cells #[.int .i64 (op.length : Int), .int .i64 2, .string ⟨#[]⟩, .string tx, .slice none 0 0] 34 (0, 0)) := by rw [heap_setCell_other _ ⟨b, 1, none⟩ (B + 1) _ (Ne.symm ne2)]; exact bI1.out
  have r0 := R3.out.far s0 hW hown 0 (.int .i64 (op.length : Int))
  have s1 := heap_setCell_same _ (B + 1) 0 _ _ (.int .i64 (op.length : Int)) s0
  have r1 := r0.far s1 hW hown 1 (.int .i64 1)
  have s2 := heap_setCell_same _ (B + 1) 1 _ _ (.int .i64 1) s1
  have r2 := r1.far s2 hW hown 2 (.string nm)
  have s3 := heap_setCell_same _ (B + 1) 2 _ _ (.string nm) s2
  have r3 := r2.far s3 hW hown 3 (.string ⟨#[]⟩)
  have s4 := heap_setCell_same _ (B + 1) 3 _ _ (.string ⟨#[]⟩) s3
  have r4 := hid (r3.far s4 hW hown 4 (.slice ao nn cp))
  have A4 := hid (row_set (j := 4) (u := .slice ao nn cp) (row_set (j := 3) (u := .string ⟨#[]⟩) (row_set (j := 2) (u := .string nm) (row_set (j := 1) (u := .int .i64 1) (row_set (j := 0) (u := .int .i64 (op.length : Int)) (row_set (j := 1) (u := .slice ao' n' cap') A3.out oB.out (by decide)) s0 (by decide)) s1 (by decide)) s2 (by decide)) s3 (by decide)) s4 (by decide))
  have K4 : Hid (∀ c, c < B → c ≠ b → ((((((w1.setCell ⟨b, 1, none⟩ (.slice ao' n' cap')).setCell ⟨B + 1, 0, none⟩ (.int .i64 (op.length : Int))).setCell ⟨B + 1, 1, none⟩ (.int .i64 1)).setCell ⟨B + 1, 2, none⟩ (.string nm)).setCell ⟨B + 1, 3, none⟩ (.string ⟨#[]⟩)).setCell ⟨B + 1, 4, none⟩ (.slice ao nn cp)).heap[c]? = w.heap[c]?) := hid (fun c hc hcb => by
    have hc' : c ≠ B + 1 := by omega
    rw [heap_setCell_other _ ⟨B + 1, 4, none⟩ c _ hc', heap_setCell_other _ ⟨B + 1, 3, none⟩ c _ hc', heap_setCell_other _ ⟨B + 1, 2, none⟩ c _ hc', heap_setCell_other _ ⟨B + 1, 1, none⟩ c _ hc', heap_setCell_other _ ⟨B + 1, 0, none⟩ c _ hc', heap_setCell_other _ ⟨b, 1, none⟩ c _ hcb]
    exact K1.out c hc)
  have hsz : B + 1 < ((((((w1.setCell ⟨b, 1, none⟩ (.slice ao' n' cap')).setCell ⟨B + 1, 0, none⟩ (.int .i64 (op.length : Int))).setCell ⟨B + 1, 1, none⟩ (.int .i64 1)).setCell ⟨B + 1, 2, none⟩ (.string nm)).setCell ⟨B + 1, 3, none⟩ (.string ⟨#[]⟩)).setCell ⟨B + 1, 4, none⟩ (.slice ao nn cp)).heap.size := by have := lt_of_block bI1.out; simpa using this
  clear r0 r1 r2 r3 s0 s1 s2 s3 s4 R3 A3
  go_wp2_with fail
  by_cases he : P.addE its.length (P.itemOf op.length ⟨1, ps, nm, tx, ats⟩) = 0
  · have HR : Hid (P.takeP (its.map (·.1)) op ⟨1, ps, nm, tx, ats⟩ = .ok ((its ++ [((P.itemOf op.length ⟨1, ps, nm, tx, ats⟩, Value.slice ao nn cp) : IV)]).map (fun y => y.1), op ++ [nm])) := hid (by simp [P.takeP, he])
    refine (add_ok r4 (P.itemOf op.length ⟨1, ps, nm, tx, ats⟩) (.slice ao nn cp) ⟨_, _, _, rfl⟩ A4 hl (hid he)).mono ?_
    rintro e w5 ⟨rfl, VI', R5⟩
    have R6 := hid R5
    clear R5 he
    go_wp2
    go_ret
    exact Or.inr ⟨_, _, _, _, HR.out, rfl, R6.out⟩
  · have HR : Hid (P.takeP (its.map (·.1)) op ⟨1, ps, nm, tx, ats⟩ = .error (P.addE its.length (P.itemOf op.length ⟨1, ps, nm, tx, ats⟩))) := hid (by simp [P.takeP, he])
    refine (add_bad r4 (P.itemOf op.length ⟨1, ps, nm, tx, ats⟩) (.slice ao nn cp) ⟨_, _, _, rfl⟩ hl _ (hid rfl) he).mono ?_
    rintro e w5 ⟨rfl, hb5⟩
    have HB := hid (r4.out.below hb5).bel
    have HK : Hid (∀ c, c < B → c ≠ b → w5.heap[c]? = w.heap[c]?) := hid (fun c hc hcb => by
      rw [hb5.block c (by omega)]
      exact K4.out c hc hcb)
    have HN := hid he
    clear hb5 he
    generalize P.addE its.length (P.itemOf op.length ⟨1, ps, nm, tx, ats⟩) = e0 at *
    go_wp2
    go_ret
    exact Or.inl ⟨_, HR.out, HN.out, rfl, HB.out, fun c hc hcb => HK.out c (HS.out ▸ hc) hcb⟩
theorem take_any (R : Hid (DR W0 b VI VN its op w)) (t : L.Tok) (v : Value) (HA : Hid (w.ownsRow W0.heap.size 67 2 v t.attrs.length (encL t.attrs))) (hk : t.kind = 1 ∨ t.kind = 2 ∨ t.kind = 3 ∨ t.kind = 4) (ho : op.length ≤ 1048575) (hl : its.length ≤ 1048576) :
    Calls Tryz.prog 12 #[.pointer (some ⟨b, 0, none⟩), tokV t v] w (TakePost W0 b w (P.takeP (its.map (·.1)) op t)) := by
  have hv : ∃ ao nn cp, v = .slice ao nn cp := by
    rcases HA.out.2 with ⟨h, _⟩ | ⟨_, _, _, h, _⟩
    · exact ⟨_, _, _, h⟩
    · exact ⟨_, _, _, h⟩
  rcases hk with hk | hk | hk | hk
  · exact take_beg R t v hv HA hk ho hl
  · exact take_end R t v hv hk (by omega)
  · exact take_both R t v hv HA hk hl
  · exact take_txt R t v hv hk hl
end
end Go.Proofs.YtafjffnijonglaaGreatDoor
