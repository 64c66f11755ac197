/- PROVED: of any text, ParseReads returns true: it is read as the document that it is, or it is told what is amiss first, and where; the text reads afterwards as it read before. Its conditions: the table of glyph lies as the program's text lays it. -/
import Derived.Test.YtafjffnijonglaaGreatDoorLFacts3
import Derived.Test.YtafjffnijonglaaGreatDoorPPlain
import Derived.Test.YtafjffnijonglaaGreatDoorLAll
import Derived.ArgAppend
import Derived.Test.YtafjffnijonglaaGreatDoorMRefOne
import Derived.Test.YtafjffnijonglaaGreatDoorGLaid
import Derived.Test.YtafjffnijonglaaGreatDoorTie
import Derived.Test.YtafjffnijonglaaGreatDoorCards
import Derived.SevenTiedAt
import Derived.Deep.DeepHandedRow
namespace Go.Proofs.YtafjffnijonglaaGreatDoor
namespace L
open G E
theorem bytes_one {a b : ByteArray} (h : a.data.toList = b.data.toList) : a = b := by
  cases a
  cases b
  simp_all
theorem app_list (s m : ByteArray) : (s ++ m).data.toList = s.data.toList ++ m.data.toList := by simp [ByteArray.data_append]
theorem app_size (s m : ByteArray) : (s ++ m).size = s.size + m.size := by simp
theorem app_drop (s m : ByteArray) (i : Nat) (hi : i ≤ s.size) : (s ++ m).data.toList.drop i = s.data.toList.drop i ++ m.data.toList := by
  rw [app_list, List.drop_append_of_le_length (by simpa using hi)]
theorem run_app {p : UInt8 → Bool} {s m : ByteArray} {i : Nat} (h : runP p s i < s.size) : runP p (s ++ m) i = runP p s i := by
  have hi : i ≤ s.size := by have := run_ge p s i; omega
  unfold runP at *
  rw [app_drop s m i hi, List.takeWhile_append]
  rw [if_neg]
  intro q
  rw [q] at h
  simp at h
  omega
theorem app_extract {s m : ByteArray} {i j : Nat} (hj : j ≤ s.size) : (s ++ m).extract i j = s.extract i j := by
  apply bytes_one
  rw [Lib.extract_data, Lib.extract_data]
  by_cases hi : i ≤ s.size
  · rw [app_drop s m i hi, List.take_append_of_le_length (by simp; omega)]
  · have e : j - i = 0 := by omega
    simp [e]
theorem app_there1 {s m : ByteArray} {i : Nat} (c : UInt8) (h : i < s.size) : thereB (s ++ m) i [c] = thereB s i [c] := by
  unfold thereB
  rw [app_drop s m i (by omega), drop_at s i h]
  simp [List.isPrefixOf]
theorem app_there {s m : ByteArray} {i : Nat} {t : List UInt8} (hi : i ≤ s.size) (h : thereB s i t = true) : thereB (s ++ m) i t = true := by
  unfold thereB at *
  rw [app_drop s m i hi]
  rw [List.isPrefixOf_iff_prefix] at *
  exact h.trans (List.prefix_append _ _)
/-- A slash alone is no attribute. -/
theorem attr_slash {s : ByteArray} {i : Nat} {acc : List Attr} (h : i < s.size) (hc : s[i] = 47) : ∃ e, attrP s i acc = .error e := by
  have hr : runP wordB s i = i := run_no h (by rw [hc]; rfl)
  have hn : nameP (s.extract i (runP wordB s i)) = false := by
    rw [hr]
    have : s.extract i i = noB := by
      apply bytes_one
      rw [Lib.extract_data]
      simp [noB]
    rw [this]
    decide
  unfold attrP
  simp only
  rw [if_pos hn]
  exact ⟨_, rfl⟩
theorem there_slash {s m : ByteArray} {k : Nat} {acc : List Attr} {a : Attr} {n : Nat} (hk : k < s.size) (ha : attrP s k acc = .ok (a, n)) : thereB (s ++ m) k [47, 62] = false := by
  cases h : thereB (s ++ m) k [47, 62]
  · rfl
  · have h1 := there_cons (s ++ m) k 47 [62] (by rw [app_size]; omega)
    rw [h] at h1
    have h2 : thereB (s ++ m) k [47] = true := by
      rw [there1 _ _ _ (by rw [app_size]; omega)]
      have := h1.symm
      rw [Bool.and_eq_true] at this
      exact this.1
    rw [app_there1 47 hk, there1 s k 47 hk] at h2
    obtain ⟨e, he⟩ := attr_slash (acc := acc) hk (by simpa using (beq_iff_eq.1 h2).symm)
    rw [he] at ha
    cases ha
theorem attr_app {s m : ByteArray} {i : Nat} {acc : List Attr} {a : Attr} {n : Nat} (h : attrP s i acc = .ok (a, n)) : attrP (s ++ m) i acc = .ok (a, n) := by
  obtain ⟨h1, h2, h3, h4, h5, h6, h7, h8, rfl, rfl⟩ := attr_ok h
  have l4 := there_lt h4
  have l5 := there_lt h5
  have r1 : runP wordB (s ++ m) i = runP wordB s i := run_app l4
  have r2 : runP (notB 34) (s ++ m) (runP wordB s i + 2) = runP (notB 34) s (runP wordB s i + 2) := run_app h6
  have e1 : (s ++ m).extract i (runP wordB s i) = s.extract i (runP wordB s i) := app_extract (by omega)
  have e2 : (s ++ m).extract (runP wordB s i + 2) (runP (notB 34) s (runP wordB s i + 2)) = s.extract (runP wordB s i + 2) (runP (notB 34) s (runP wordB s i + 2)) := app_extract (by omega)
  have := attr_mk (s := s ++ m) (i := i) (acc := acc) (by rw [r1, e1]; exact h1) h2 (by rw [r1, e1]; exact h3) (by rw [r1]; exact app_there (by omega) h4) (by rw [r1]; exact app_there (by omega) h5)
    (by rw [r1, r2, app_size]; omega) (by rw [r1, r2, e2]; exact h7) (by rw [r1, r2, e2]; exact h8)
  rw [this, r1, r2, e1, e2]
theorem attrs_app {s m : ByteArray} : ∀ (f i : Nat) (acc acc' : List Attr) (k : Nat), attrsF f s i acc = .ok (acc', k) → k < s.size → (thereB s k [62] = true ∨ thereB s k [47, 62] = true) → i ≤ s.size → attrsF f (s ++ m) i acc = .ok (acc', k)
  | 0, i, acc, acc', k, h, _, _, _ => by simpa [attrsF] using h
  | f + 1, i, acc, acc', k, h, hk, ht, hi => by
    rw [attrs_succ] at h
    rw [attrs_succ]
    split at h
    · rename_i hm
      obtain ⟨m1, m2, m3, m4⟩ := more_go hm
      have r1 : runP blankB (s ++ m) i = runP blankB s i := run_app m2
      cases ha : attrP s (runP blankB s i) acc with
      | error e => rw [ha] at h; cases h
      | ok p =>
        obtain ⟨a, n⟩ := p
        rw [ha] at h
        have hg := attr_go ha
        have hm2 : moreB (s ++ m) i (runP blankB s i) = true := by
          unfold moreB
          rw [app_there1 62 m2, m3, there_slash m2 ha, app_size]
          simp
          omega
        rw [r1, if_pos hm2, attr_app ha]
        exact attrs_app f n (acc ++ [a]) acc' k h hk ht hg.2.1
    · simp only [Except.ok.injEq, Prod.mk.injEq] at h
      obtain ⟨rfl, rfl⟩ := h
      have r1 : runP blankB (s ++ m) i = runP blankB s i := run_app hk
      have hm2 : moreB (s ++ m) i (runP blankB s i) = false := by
        unfold moreB
        rcases ht with h | h
        · rw [app_there (by omega) h]; simp
        · rw [app_there (by omega) h]; simp
      rw [r1, if_neg (by rw [hm2]; simp)]
/-- A tag is told alike, whatever stands behind it. -/
theorem one_app {s m : ByteArray} {i : Nat} {t : Tok} {n : Nat} (hi : i < s.size) (h : oneN s i = .ok (t, n)) (hk : t.kind ≠ 4) : oneN (s ++ m) i = .ok (t, n) := by
  unfold oneN at h
  cases h1 : thereB s i [60, 47] with
  | true =>
    rw [h1, if_pos rfl] at h
    obtain ⟨h2, h3, rfl, rfl⟩ := end_ok h
    have l3 := there_lt h3
    have g1 := run_ge blankB s (runP wordB s (i + 2))
    have r1 : runP wordB (s ++ m) (i + 2) = runP wordB s (i + 2) := run_app (by omega)
    have r2 : runP blankB (s ++ m) (runP wordB s (i + 2)) = runP blankB s (runP wordB s (i + 2)) := run_app l3
    have e1 : (s ++ m).extract (i + 2) (runP wordB s (i + 2)) = s.extract (i + 2) (runP wordB s (i + 2)) := app_extract (by omega)
    unfold oneN
    rw [app_there (by omega) h1, if_pos rfl]
    unfold endP
    simp only
    rw [r1, r2, e1, if_neg (by rw [h2]; simp), if_pos (app_there (by omega) h3)]
  | false =>
    rw [h1, if_neg (by simp)] at h
    cases h2 : thereB s i [60] with
    | false =>
      rw [h2, if_neg (by simp)] at h
      obtain ⟨_, _, rfl, _⟩ := text_ok h
      exact absurd rfl hk
    | true =>
      rw [h2, if_pos rfl] at h
      obtain ⟨h3, acc, k, h4, h5⟩ := beg_ok h
      have a2 := run_le (p := wordB) (s := s) (i := i + 1) (by omega)
      have hks : k < s.size := by rcases h5 with ⟨q, _⟩ | ⟨_, q, _⟩ <;> exact there_lt q
      have g1 := attrs_ok s _ _ _ _ _ h4 a2 trivial (by simp) (by simp)
      have r1 : runP wordB (s ++ m) (i + 1) = runP wordB s (i + 1) := run_app (by omega)
      have e1 : (s ++ m).extract (i + 1) (runP wordB s (i + 1)) = s.extract (i + 1) (runP wordB s (i + 1)) := app_extract a2
      have hn : thereB (s ++ m) i [60, 47] = false := by
        have g2 := g1.2.2.2.1
        have g3 := run_ge wordB s (i + 1)
        cases hb : thereB (s ++ m) i [60, 47]
        · rfl
        · exfalso
          rw [there_cons _ _ _ _ (by rw [app_size]; omega), Bool.and_eq_true] at hb
          have i1 : i + 1 < s.size := by omega
          have hb2 := hb.2
          rw [app_there1 47 i1] at hb2
          have hc : thereB s i [60, 47] = true := by
            rw [there_cons s i 60 [47] hi, hb2]
            rw [there1 s i 60 hi] at h2
            rw [h2]
            rfl
          rw [h1] at hc
          cases hc
      have hat : attrsF ((s ++ m).size + 1) (s ++ m) (runP wordB s (i + 1)) [] = .ok (acc, k) := by
        rw [attrs_enough (s ++ m) ((s ++ m).size + 1) ((s ++ m).size + (s.size + 1) + 1) _ [] (by omega) (by omega)]
        have h4' : attrsF ((s ++ m).size + (s.size + 1) + 1) s (runP wordB s (i + 1)) [] = .ok (acc, k) := by
          rw [← h4]
          exact attrs_enough s _ _ _ _ (by omega) (by omega)
        exact attrs_app _ _ _ _ _ h4' hks (by rcases h5 with ⟨q, _⟩ | ⟨_, q, _⟩; exact Or.inl q; exact Or.inr q) a2
      unfold oneN
      rw [hn, if_neg (by simp), app_there (by omega) h2, if_pos rfl]
      unfold begP
      simp only
      rw [r1, e1, if_neg (by rw [h3]; simp), hat]
      simp only
      rcases h5 with ⟨q, rfl, rfl⟩ | ⟨q0, q, rfl, rfl⟩
      · rw [if_pos (app_there (by omega) q)]
      · rw [if_neg (by rw [app_there1 62 hks, q0]; simp), if_pos (app_there (by omega) q)]
end L
end Go.Proofs.YtafjffnijonglaaGreatDoor
namespace Go.Proofs.YtafjffnijonglaaGreatDoor
open Go.RowKit Go.Shelf
abbrev IV := P.Itm × Value
def encI1 (x : IV) : List Value := [.int .i64 x.1.level, .int .i64 x.1.kind, .string x.1.name, .string x.1.text, x.2]
def encI (l : List IV) : List Value := l.flatMap encI1
/-- Items lie in a row of the call's own, and each one's attributes in another. -/
def ItmRow (base : Nat) (V : Value) (l : List IV) (w : World) : Prop :=
  w.ownsRow base 34 5 V l.length (encI l) ∧ ∀ x ∈ l, w.ownsRow base 67 2 x.2 x.1.attrs.length (encL x.1.attrs)
theorem encI_snoc (l : List IV) (x : IV) : encI (l ++ [x]) = encI l ++ encI1 x := by simp [encI]
theorem ItmRow.below {base : Nat} {V : Value} {l : List IV} {w w' : World} (h : ItmRow base V l w) (hb : Below w.heap.size w w') : ItmRow base V l w' := ⟨row_below h.1 hb, fun x hx => row_below (h.2 x hx) hb⟩
/-- Names lie in a row of the call's own, perhaps with more behind them. -/
def NamesAt (base : Nat) (V : Value) (op : List ByteArray) (w : World) : Prop :=
  (V = .slice none 0 0 ∧ op = []) ∨ ∃ g cap cur, V = .slice (some ⟨g, 0, none⟩) op.length cap ∧ base ≤ g ∧ w.heap[g]? = some (.cells cur 9 (0, 0)) ∧ op.length ≤ cap ∧ cap ≤ maxLen ∧ ∀ j (h : j < op.length), cur[j]? = some (.string op[j])
theorem NamesAt.below {base : Nat} {V : Value} {op : List ByteArray} {w w' : World} (h : NamesAt base V op w) (hb : Below w.heap.size w w') : NamesAt base V op w' := by
  rcases h with h | ⟨g, cap, cur, h1, h2, h3, h4⟩
  · exact Or.inl h
  · exact Or.inr ⟨g, cap, cur, h1, h2, by rw [hb.block g (lt_of_block h3)]; exact h3, h4⟩
theorem NamesAt.form {base : Nat} {V : Value} {op : List ByteArray} {w : World} (h : NamesAt base V op w) : ∃ ao cap, V = .slice ao op.length cap ∧ op.length ≤ cap ∧ (ao = none → op.length = 0 ∧ cap = 0) ∧ ∀ b, ao = some b → ∃ g, b = ⟨g, 0, none⟩ ∧ base ≤ g ∧ g < w.heap.size ∧ ∀ j (h : j < op.length), w.cell? ⟨g, j, none⟩ = some (.string op[j]) := by
  rcases h with ⟨rfl, rfl⟩ | ⟨g, cap, cur, rfl, h2, h3, h4, h5, h6⟩
  · exact ⟨none, 0, rfl, by simp, by simp, by simp⟩
  · refine ⟨some ⟨g, 0, none⟩, cap, rfl, h4, by simp, fun b hb => ⟨g, by simpa using hb.symm, h2, lt_of_block h3, fun j hj => ?_⟩⟩
    rw [cell_of_row w g j _ _ _ h3]
    exact h6 j hj
theorem row_set {base e : Nat} {e' : TypeId} {size : Nat} {v : Value} {n : Nat} {xs : List Value} {w : World} {b j : Nat} {cs : Array Value} {fz : Nat × Nat} {u : Value} (h : w.ownsRow base e size v n xs) (hb : w.heap[b]? = some (.cells cs e' fz)) (ne : e ≠ e') : (w.setCell ⟨b, j, none⟩ u).ownsRow base e size v n xs := by
  obtain ⟨h1, h2⟩ := h
  refine ⟨h1, ?_⟩
  rcases h2 with h2 | ⟨g, cap, cur, h3, h4, h5, h6⟩
  · exact Or.inl h2
  · refine Or.inr ⟨g, cap, cur, h3, h4, ?_, h6⟩
    rw [heap_setCell_other w ⟨b, j, none⟩ g u (fun q => by
      have q' : g = b := q
      rw [q', hb] at h5
      simp only [Option.some.injEq, Obj.cells.injEq] at h5
      exact ne h5.2.1.symm)]
    exact h5
theorem names_set {base : Nat} {e' : TypeId} {V : Value} {op : List ByteArray} {w : World} {b j : Nat} {cs : Array Value} {fz : Nat × Nat} {u : Value} (h : NamesAt base V op w) (hb : w.heap[b]? = some (.cells cs e' fz)) (ne : 9 ≠ e') : NamesAt base V op (w.setCell ⟨b, j, none⟩ u) := by
  rcases h with h | ⟨g, cap, cur, h1, h2, h3, h4⟩
  · exact Or.inl h
  · refine Or.inr ⟨g, cap, cur, h1, h2, ?_, h4⟩
    rw [heap_setCell_other w ⟨b, j, none⟩ g u (fun q => by
      have q' : g = b := q
      rw [q', hb] at h3
      simp only [Option.some.injEq, Obj.cells.injEq] at h3
      exact ne h3.2.1.symm)]
    exact h3
/-- A draft lies at block b of a world that goes back to W0. -/
structure DR (W0 : World) (b : Nat) (VI VN : Value) (its : List IV) (op : List ByteArray) (w : World) : Prop where
  tab : Tab W0
  low : W0.heap.size ≤ b
  bel : Below W0.heap.size W0 w
  obj : w.heap[b]? = some (.cells #[VI, VN] 38 (0, 0))
  itm : ItmRow W0.heap.size VI its w
  nam : NamesAt W0.heap.size VN op w
section
variable {W0 : World} {b : Nat} {VI VN : Value} {its : List IV} {op : List ByteArray} {w : World}
theorem DR.lt (h : DR W0 b VI VN its op w) : b < w.heap.size := lt_of_block h.obj
theorem DR.tabw (h : DR W0 b VI VN its op w) : Tab w := h.tab.below h.bel
theorem DR.cell (h : DR W0 b VI VN its op w) (j : Nat) : w.cell? ⟨b, j, none⟩ = #[VI, VN][j]? := cell_of_row w b j _ _ _ h.obj
theorem DR.frozen (h : DR W0 b VI VN its op w) (j : Nat) : w.frozen? ⟨b, j, none⟩ = false := frozen_of_row w b j _ _ h.obj
theorem DR.below (h : DR W0 b VI VN its op w) {w' : World} (hb : Below w.heap.size w w') : DR W0 b VI VN its op w' :=
  ⟨h.tab, h.low, h.bel.trans (hb.mono (Nat.le_of_lt (Nat.lt_of_le_of_lt h.low h.lt))), by rw [hb.block b h.lt]; exact h.obj, h.itm.below hb, h.nam.below hb⟩
theorem DR.new (h : DR W0 b VI VN its op w) (o : Obj) : DR W0 b VI VN its op (w.alloc o) := h.below ((Below.refl _ _).alloc (Nat.le_refl _) o)
theorem DR.drewN (h : DR W0 b VI VN its op w) (m : Nat) : DR W0 b VI VN its op (w.drewN m) :=
  ⟨h.tab, h.low, ⟨h.bel.os, h.bel.tape, h.bel.output, h.bel.size, h.bel.block⟩, h.obj, h.itm, h.nam⟩
theorem DR.setN (h : DR W0 b VI VN its op w) {VN' : Value} {op' : List ByteArray} (hn : NamesAt W0.heap.size VN' op' w) : DR W0 b VI VN' its op' (w.setCell ⟨b, 1, none⟩ VN') :=
  ⟨h.tab, h.low, h.bel.setCell (p := ⟨b, 1, none⟩) h.low _, by rw [heap_setCell_same w b 1 _ _ VN' h.obj]; rfl,
    ⟨row_set h.itm.1 h.obj (by decide), fun x hx => row_set (h.itm.2 x hx) h.obj (by decide)⟩, names_set hn h.obj (by decide)⟩
theorem DR.setI (h : DR W0 b VI VN its op w) {VI' : Value} {its' : List IV} (hn : ItmRow W0.heap.size VI' its' w) : DR W0 b VI' VN its' op (w.setCell ⟨b, 0, none⟩ VI') :=
  ⟨h.tab, h.low, h.bel.setCell (p := ⟨b, 0, none⟩) h.low _, by rw [heap_setCell_same w b 0 _ _ VI' h.obj]; rfl,
    ⟨row_set hn.1 h.obj (by decide), fun x hx => row_set (hn.2 x hx) h.obj (by decide)⟩, names_set h.nam h.obj (by decide)⟩
end

set_option maxRecDepth 100000 in
set_option maxHeartbeats 400000 in
theorem closes_any {base : Nat} {V : Value} {op : List ByteArray} {w : World} (h : NamesAt base V op w) (n : ByteArray) (hl : op.length ≤ 1048576) :
    Calls Tryz.prog 21 #[V, .string n] w fun e w' => e = .returned (.bool (P.closesB op n)) ∧ w' = w := by
  obtain ⟨ao, cap, rfl, h1, h2, h3⟩ := h.form
  clear h
  rcases List.eq_nil_or_concat op with rfl | ⟨l, a, rfl⟩
  · clear h3
    go_enter Tryz.func21, Tryz.ntmps21
    go_wp2
    go_ret
    exact ⟨rfl, rfl⟩
  · simp only [List.concat_eq_append] at *
    obtain ⟨g, rfl⟩ : ∃ g, ao = some ⟨g, 0, none⟩ := by
      cases ao with
      | none => have := (h2 rfl).1; simp at this
      | some x => obtain ⟨g, rfl, _⟩ := h3 x rfl; exact ⟨g, rfl⟩
    obtain ⟨g', e1, _, _, hc⟩ := h3 _ rfl
    simp only [Addr.mk.injEq, and_true] at e1
    subst e1
    have c0 : w.cell? ⟨g, l.length, none⟩ = some (.string a) := by have := hc l.length (by simp); simpa using this
    have E : Hid ((a.toList == n.toList) = P.closesB (l ++ [a]) n) := hid (by
      rw [str_eq]
      unfold P.closesB
      simp)
    clear h2 h3 hc
    simp only [List.length_append, List.length_cons, List.length_nil, Nat.zero_add] at hl h1 ⊢
    generalize P.closesB (l ++ [a]) n = r at *
    generalize l.length = q at *
    have h4 : (0 : Int) < ((q + 1 : Nat) : Int) := by omega
    have h5 : (((q + 1 : Nat) : Int) - 1).toNat = q := by omega
    have h6 : ((q + 1 : Nat) : Int) - 1 = (q : Int) := by omega
    go_enter Tryz.func21, Tryz.ntmps21
    go_wp2
    go_ret
    exact ⟨ret_bool E.out, rfl⟩
set_option maxRecDepth 100000 in
set_option maxHeartbeats 400000 in
theorem outside_any {base : Nat} {V : Value} {op : List ByteArray} {w : World} (h : NamesAt base V op w) (ho : op ≠ []) (hl : op.length ≤ 1048576) :
    Calls Tryz.prog 22 #[V] w fun e w' => ∃ V', e = .returned V' ∧ NamesAt base V' op.dropLast w ∧ w' = w := by
  rcases h with ⟨_, h⟩ | ⟨g, cap, cur, rfl, h2, h3, h4, h5, h6⟩
  · exact absurd h ho
  · have hp : 0 < op.length := List.length_pos_iff.2 ho
    obtain ⟨q, hq⟩ : ∃ q, op.length = q + 1 := ⟨op.length - 1, by omega⟩
    have H : Hid (∀ cap', cap' = q → NamesAt base (.slice (some ⟨g, 0, none⟩) q cap') op.dropLast w) := hid (fun cap' hc => Or.inr ⟨g, cap', cur, by simp; omega, h2, h3, by simp; omega, by omega, fun j hj => by
      have : j < op.length := by simp at hj; omega
      rw [h6 j this]; simp⟩)
    rw [hq] at hl h4 ⊢
    clear h2 h3 h6 ho hp hq
    have h7 : (((q + 1 : Nat) : Int) - 1).toNat = q := by omega
    have h8 : ((q + 1 : Nat) : Int) - 1 = (q : Int) := by omega
    have h9 : q ≤ cap := by omega
    go_enter Tryz.func22, Tryz.ntmps22
    go_wp2
    go_ret
    exact ⟨_, rfl, H.out _ rfl, rfl⟩
theorem infoS : (Tryz.prog.info? 9).map (fun i => (i.zero, i.size, i.bytes)) = some (some (.string ⟨#[]⟩), 1, 16) := by kernel_rfl
set_option maxRecDepth 100000 in
set_option maxHeartbeats 400000 in
theorem with_any {base : Nat} {V : Value} {op : List ByteArray} {w : World} (h : NamesAt base V op w) (n : ByteArray) (hl : op.length ≤ 1048576) (hbs : base ≤ w.heap.size) :
    Calls Tryz.prog 23 #[V, .string n] w fun e w' => ∃ V', e = .returned V' ∧ NamesAt base V' (op ++ [n]) w' ∧ Below w.heap.size w w' := by
  obtain ⟨i0, hi0, hz0, hz1, hz2⟩ := info_parts infoS
  have I0 := hid hi0
  have I1 := hid hz0
  have I2 := hid hz1
  have I3 := hid hz2
  clear hi0 hz0 hz1 hz2
  obtain ⟨ao, cap, rfl, h1, h2, h3⟩ := h.form
  have hbel : Hid (Below w.heap.size w (w.alloc (.cells #[.string n] 9))) := hid ((Below.refl _ _).alloc (Nat.le_refl _) _)
  have HN : Hid (∀ q u, [Value.string n][q]? = some u → (w.alloc (.cells #[.string n] 9)).cell? ((⟨w.heap.size, 0, none⟩ : Addr).add q) = some u) := hid (World.news_of_block (cs := #[.string n]) (heap_alloc_new w _))
  have HOld : Hid (∀ b, ao = some b → ∀ j u, (op.map Value.string)[j]? = some u → (w.alloc (.cells #[.string n] 9)).cell? (b.add j) = some u) := hid (fun b hb j u hu => by
    obtain ⟨g, rfl, _, hg, hc⟩ := h3 b hb
    have hj : j < op.length := by
      by_cases hj : j < op.length
      · exact hj
      · rw [List.getElem?_eq_none (by simpa using hj)] at hu; cases hu
    rw [List.getElem?_eq_getElem (by simpa using hj)] at hu
    simp only [List.getElem_map, Option.some.injEq] at hu
    subst hu
    rw [show (⟨g, 0, none⟩ : Addr).add j = ⟨g, j, none⟩ by simp [Addr.add]; intro h; exact h.symm, World.cell?_alloc_past _ _ _ hg]
    exact hc j hj)
  have FIN : Hid (∀ v' w', w'.ownsRow (w.alloc (.cells #[.string n] 9)).heap.size 9 1 v' (op.length + 1) (op.map Value.string ++ [.string n]) → (w.alloc (.cells #[.string n] 9)).grownBy w' none → NamesAt base v' (op ++ [n]) w' ∧ Below w.heap.size w w') := hid (fun v' w' ho hg => by
    refine ⟨?_, hbel.out.grown hg (by simp) (by simp)⟩
    rcases ho.2 with ⟨_, h0⟩ | ⟨g, cap', cur, rfl, k1, k2, k3, k4, k5, k6⟩
    · simp at h0
    · refine Or.inr ⟨g, cap', cur, by simp, by simp at k1; omega, k2, by simpa using k3, k4, fun j hj => ?_⟩
      have : cur.toList[j]? = (op.map Value.string ++ [.string n])[j]? := by
        rw [← k6, List.getElem?_take_of_lt (by simp at hj; omega)]
      rw [Array.getElem?_toList] at this
      rw [this, show op.map Value.string ++ [Value.string n] = (op ++ [n]).map Value.string by simp, List.getElem?_map, List.getElem?_eq_getElem hj, Option.map_some])
  clear h h3
  have hm : Hid (op.length + 1 ≤ maxLen ∧ (op.length + 1) * 16 ≤ 140737488355328) := hid ⟨by unfold maxLen; omega, by omega⟩
  have hlen : Hid ((op.map Value.string).length = op.length * 1) := hid (by simp)
  have hn2 : Hid (ao = none → op.length = 0 ∧ op.length = 0) := hid (fun q => ⟨(h2 q).1, (h2 q).1⟩)
  clear h2
  go_enter Tryz.func23, Tryz.ntmps23
  go_wp2_with (at_builtin; refine wpList_append_grows _ rfl (.tmp 10) (.tmp 12) 36 rfl 9 i0 (.string ⟨#[]⟩) 1 16 Tryz.underlying36 I0.out I1.out I2.out I3.out rfl (by decide) ao op.length op.length (op.map Value.string) (by simp [Act.eval]) hn2.out hlen.out HOld.out ⟨w.heap.size, 0, none⟩ 1 1 [.string n] rfl rfl HN.out (by simp [Value.oneCell']) (by omega) hm.out.1 hm.out.2 ?_; intro v' w' hown hgrow)
  have F2 := hid (FIN.out _ _ hown hgrow)
  clear hown hgrow
  go_wp2
  go_ret
  exact ⟨_, rfl, F2.out.1, F2.out.2⟩
end Go.Proofs.YtafjffnijonglaaGreatDoor
namespace Go.Proofs.YtafjffnijonglaaGreatDoor
open Go.RowKit Go.Shelf
def itmV (x : P.Itm) (v : Value) : Value := .agg #[.int .i64 x.level, .int .i64 x.kind, .string x.name, .string x.text, v]
theorem infoI : (Tryz.prog.info? 34).map (fun i => (i.zero, i.size, i.bytes)) = some (some (.agg #[.int .i64 0, .int .i64 0, .string ⟨#[]⟩, .string ⟨#[]⟩, .slice none 0 0]), 5, 72) := by kernel_rfl
theorem one_fiveI (x : IV) (h : x.2.oneCell' = true) : ∀ u ∈ encI1 x, u.oneCell' = true := by
  intro u hu
  simp only [encI1, List.mem_cons, List.not_mem_nil, or_false] at hu
  rcases hu with rfl | rfl | rfl | rfl | rfl <;> first | rfl | exact h
section
variable {W0 : World} {b : Nat} {VI VN : Value} {its : List IV} {op : List ByteArray} {w : World}
/-- What an append to the items leaves as it was. -/
theorem DR.grow (h : DR W0 b VI VN its op w) {w' : World} (hg : w.grownBy w' VI.ownBlock) : w'.heap[b]? = some (.cells #[VI, VN] 38 (0, 0)) ∧ NamesAt W0.heap.size VN op w' ∧ Below W0.heap.size W0 w' := by
  have own : ∀ (c : Nat) (cs : Array Value) (e : TypeId) (fz : Nat × Nat), w.heap[c]? = some (.cells cs e fz) → e ≠ 34 → some c ≠ VI.ownBlock := by
    intro c cs e fz hc ne q
    rcases h.itm.1.2 with ⟨rfl, _⟩ | ⟨g, cap, cur, rfl, _, hg', _⟩
    · cases q
    · have : c = g := by simpa [Value.ownBlock] using q
      subst this
      rw [hc] at hg'
      simp only [Option.some.injEq, Obj.cells.injEq] at hg'
      exact ne hg'.2.1
  refine ⟨by rw [hg.block b h.lt (own b _ _ _ h.obj (by decide))]; exact h.obj, ?_, h.bel.grown hg (Nat.le_of_lt (Nat.lt_of_le_of_lt h.low h.lt)) fun k hk => (World.ownsRow.lt h.itm.1 k hk).1⟩
  rcases h.nam with h' | ⟨g, cap, cur, h1, h2, h3, h4⟩
  · exact Or.inl h'
  · exact Or.inr ⟨g, cap, cur, h1, h2, by rw [hg.block g (lt_of_block h3) (own g _ _ _ h3 (by decide))]; exact h3, h4⟩
theorem DR.form (h : DR W0 b VI VN its op w) : ∃ ao cap, VI = .slice ao its.length cap := by
  rcases h.itm.1.2 with ⟨h, h'⟩ | ⟨_, _, _, h, _⟩
  · exact ⟨none, 0, by rw [h, h']⟩
  · exact ⟨_, _, h⟩
theorem DR.formN (h : DR W0 b VI VN its op w) : ∃ ao cap, VN = .slice ao op.length cap := by
  obtain ⟨ao, cap, e, _⟩ := h.nam.form
  exact ⟨ao, cap, e⟩
theorem DR.turn {w1 : World} (h : DR W0 b VI VN its op w1) (g : w.heap[b]? = some (.cells #[VI, VN] 38 (0, 0)) ∧ NamesAt W0.heap.size VN op w ∧ Below W0.heap.size W0 w) {VI' : Value} {its' : List IV} (hn : ItmRow W0.heap.size VI' its' w) : DR W0 b VI' VN its' op (w.setCell ⟨b, 0, none⟩ VI') :=
  ⟨h.tab, h.low, g.2.2.setCell (p := ⟨b, 0, none⟩) h.low _, by rw [heap_setCell_same w b 0 _ _ VI' g.1]; rfl,
    ⟨row_set hn.1 g.1 (by decide), fun x hx => row_set (hn.2 x hx) g.1 (by decide)⟩, names_set g.2.1 g.1 (by decide)⟩
set_option maxRecDepth 100000 in
set_option maxHeartbeats 1000000 in
theorem add_bad (R : Hid (DR W0 b VI VN its op w)) (x : P.Itm) (v : Value) (hv : ∃ ao nn cp, v = .slice ao nn cp) (hl : its.length ≤ 1048576) (e0 : Int) (HE : Hid (P.addE its.length x = e0)) (he : e0 ≠ 0) :
    Calls Tryz.prog 24 #[.pointer (some ⟨b, 0, none⟩), itmV x v] w fun e w' => e = .returned (.int .i64 e0) ∧ Below w.heap.size w w' := by
  obtain ⟨ao, nn, cp, rfl⟩ := hv
  obtain ⟨aoI, capI, rfl⟩ := R.out.form
  obtain ⟨lv, kd, nm, tx, ats⟩ := x
  have c0 := R.out.cell 0
  simp only [List.getElem?_toArray, List.getElem?_cons_zero] at c0
  have R1 : Hid (Below w.heap.size w (w.alloc (.cells #[.int .i64 lv, .int .i64 kd, .string nm, .string tx, .slice ao nn cp] 34))) := hid ((Below.refl _ _).alloc (Nat.le_refl _) _)
  have hb := R.out.lt
  have c1 : (w.alloc (.cells #[.int .i64 lv, .int .i64 kd, .string nm, .string tx, .slice ao nn cp] 34)).cell? ⟨b, 0, none⟩ = some (.slice aoI its.length capI) := by rw [World.cell?_alloc_past _ _ _ hb]; exact c0
  clear R c0 hb
  have HE2 := HE.out
  unfold P.addE at HE2
  dsimp only at HE2
  clear HE
  unfold itmV
  generalize its.length = m at *
  by_cases h0 : lv = 0
  · subst h0
    by_cases hm : m = 0
    · subst hm
      by_cases hk : kd = 2
      · subst hk
        obtain rfl : e0 = 40 := by simpa using HE2.symm
        clear HE2 he
        go_enter Tryz.func24, Tryz.ntmps24
        go_wp2
        go_ret
        exact ⟨rfl, R1.out⟩
      · exact absurd (by simpa [hk] using HE2.symm) he
    · have hm' : (0 : Int) < (m : Int) := by omega
      obtain rfl : e0 = 40 := by simpa [hm] using HE2.symm
      clear HE2 he
      go_enter Tryz.func24, Tryz.ntmps24
      go_wp2
      go_ret
      exact ⟨rfl, R1.out⟩
  · have h0' : (lv == 0) = false := beq_eq_false_iff_ne.2 h0
    rw [if_neg (by simp [h0])] at HE2
    by_cases h4 : 40 ≤ lv
    · obtain rfl : e0 = 42 := by simpa [h4] using HE2.symm
      clear HE2 he h0
      go_enter Tryz.func24, Tryz.ntmps24
      go_wp2
      go_ret
      exact ⟨rfl, R1.out⟩
    · rw [if_neg h4] at HE2
      by_cases h5 : 1000 ≤ m
      · have h5' : (1000 : Int) ≤ (m : Int) := by omega
        obtain rfl : e0 = 43 := by simpa [h5] using HE2.symm
        clear HE2 he h0
        go_enter Tryz.func24, Tryz.ntmps24
        go_wp2
        go_ret
        exact ⟨rfl, R1.out⟩
      · exact absurd (by simpa [h5] using HE2.symm) he
set_option maxRecDepth 100000 in
set_option maxHeartbeats 4000000 in
theorem add_ok (R : Hid (DR W0 b VI VN its op w)) (x : P.Itm) (v : Value) (hv : ∃ ao nn cp, v = .slice ao nn cp) (HA : Hid (w.ownsRow W0.heap.size 67 2 v x.attrs.length (encL x.attrs))) (hl : its.length ≤ 1048576) (HE : Hid (P.addE its.length x = 0)) :
    Calls Tryz.prog 24 #[.pointer (some ⟨b, 0, none⟩), itmV x v] w fun e w' => e = .returned (.int .i64 0) ∧ ∃ VI', DR W0 b VI' VN (its ++ [(x, v)]) op w' := by
  obtain ⟨i0, hi0, hz0, hz1, hz2⟩ := info_parts infoI
  have I0 := hid hi0
  have I1 := hid hz0
  have I2 := hid hz1
  have I3 := hid hz2
  clear hi0 hz0 hz1 hz2
  obtain ⟨ao, nn, cp, rfl⟩ := hv
  obtain ⟨aoI, capI, rfl⟩ := R.out.form
  obtain ⟨lv, kd, nm, tx, ats⟩ := x
  have c0 := R.out.cell 0
  simp only [List.getElem?_toArray, List.getElem?_cons_zero] at c0
  have R1 := hid (R.out.new (.cells #[.int .i64 lv, .int .i64 kd, .string nm, .string tx, .slice ao nn cp] 34))
  have A1 : Hid ((w.alloc (.cells #[.int .i64 lv, .int .i64 kd, .string nm, .string tx, .slice ao nn cp] 34)).ownsRow W0.heap.size 67 2 (.slice ao nn cp) ats.length (encL ats)) := hid (World.ownsRow.alloc HA.out _)
  have hb := R.out.lt
  have hbs : w.heap.size < (w.alloc (.cells #[.int .i64 lv, .int .i64 kd, .string nm, .string tx, .slice ao nn cp] 34)).heap.size := by simp
  have nw := heap_alloc_new w (.cells #[.int .i64 lv, .int .i64 kd, .string nm, .string tx, .slice ao nn cp] 34)
  have k0 : (w.alloc (.cells #[.int .i64 lv, .int .i64 kd, .string nm, .string tx, .slice ao nn cp] 34)).cell? ⟨w.heap.size, 0, none⟩ = some (.int .i64 lv) := by rw [cell_of_row _ w.heap.size 0 _ _ _ nw]; rfl
  have k1 : (w.alloc (.cells #[.int .i64 lv, .int .i64 kd, .string nm, .string tx, .slice ao nn cp] 34)).cell? ⟨w.heap.size, 1, none⟩ = some (.int .i64 kd) := by rw [cell_of_row _ w.heap.size 1 _ _ _ nw]; rfl
  have k2 : (w.alloc (.cells #[.int .i64 lv, .int .i64 kd, .string nm, .string tx, .slice ao nn cp] 34)).cell? ⟨w.heap.size, 2, none⟩ = some (.string nm) := by rw [cell_of_row _ w.heap.size 2 _ _ _ nw]; rfl
  have k3 : (w.alloc (.cells #[.int .i64 lv, .int .i64 kd, .string nm, .string tx, .slice ao nn cp] 34)).cell? ⟨w.heap.size, 3, none⟩ = some (.string tx) := by rw [cell_of_row _ w.heap.size 3 _ _ _ nw]; rfl
  have k4 : (w.alloc (.cells #[.int .i64 lv, .int .i64 kd, .string nm, .string tx, .slice ao nn cp] 34)).cell? ⟨w.heap.size, 4, none⟩ = some (.slice ao nn cp) := by rw [cell_of_row _ w.heap.size 4 _ _ _ nw]; rfl
  have HE2 := HE.out
  unfold P.addE at HE2
  dsimp only at HE2
  have hlt : lv < 40 ∧ its.length < 1000 ∧ (lv = 0 → its.length = 0 ∧ (kd == 2) = false) := by
    split at HE2
    · simp at HE2
    · rename_i h1
      split at HE2
      · simp at HE2
      · split at HE2
        · simp at HE2
        · refine ⟨by omega, by omega, fun q => ⟨?_, beq_eq_false_iff_ne.2 fun q2 => h1 ⟨q, Or.inr q2⟩⟩⟩
          by_cases q2 : its.length = 0
          · exact q2
          · exact absurd ⟨q, Or.inl q2⟩ h1
  clear HE HE2 HA R c0 nw
  unfold itmV
  obtain ⟨l1, l2, l3⟩ := hlt
  have c1 : (w.alloc (.cells #[.int .i64 lv, .int .i64 kd, .string nm, .string tx, .slice ao nn cp] 34)).cell? ⟨b, 0, none⟩ = some (.slice aoI its.length capI) := by
    have c1 := R1.out.cell 0
    simpa only [List.getElem?_toArray, List.getElem?_cons_zero] using c1
  have l2' : ¬ (1000 : Int) ≤ (its.length : Int) := by omega
  have l1' : ¬ (40 : Int) ≤ lv := by omega
  go_enter Tryz.func24, Tryz.ntmps24
  by_cases h0 : lv = 0
  · subst h0
    obtain ⟨m0, kd2⟩ := l3 rfl
    have m1 : its = [] := List.length_eq_zero_iff.1 m0
    subst m1
    clear m0 l3 l2 l2'
    simp only [List.length_nil] at R1 c1
    go_wp2
    generalize w.alloc (.cells #[.int .i64 0, .int .i64 kd, .string nm, .string tx, .slice ao nn cp] 34) = W1 at *
    generalize w.heap.size = B at *
    have HO : Hid ((W1.alloc (Obj.cells #[.int .i64 0, .int .i64 kd, .string nm, .string tx, .slice ao nn cp] 34)).drew.ownsRow W0.heap.size 34 5 (.slice aoI 0 capI) 0 (encI [])) := hid (R1.out.new _).itm.1
    have HN : Hid (∀ q u, [Value.int .i64 0, .int .i64 kd, .string nm, .string tx, .slice ao nn cp][q]? = some u → (W1.alloc (Obj.cells #[.int .i64 0, .int .i64 kd, .string nm, .string tx, .slice ao nn cp] 34)).drew.cell? ((⟨W1.heap.size, 0, none⟩ : Addr).add q) = some u) :=
      hid (World.news_of_block (w := (W1.alloc (Obj.cells #[.int .i64 0, .int .i64 kd, .string nm, .string tx, .slice ao nn cp] 34)).drew) (cs := #[.int .i64 0, .int .i64 kd, .string nm, .string tx, .slice ao nn cp]) (heap_alloc_new W1 _))
    have a0 : (W1.alloc (Obj.cells #[.int .i64 0, .int .i64 kd, .string nm, .string tx, .slice ao nn cp] 34)).cell? ⟨b, 0, none⟩ = some (.slice aoI 0 capI) := by rw [World.cell?_alloc_past _ _ _ R1.out.lt]; exact c1
    have q0 : (W1.alloc (Obj.cells #[.int .i64 0, .int .i64 kd, .string nm, .string tx, .slice ao nn cp] 34)).cell? ⟨B, 0, none⟩ = some (.int .i64 0) := by rw [World.cell?_alloc_past _ _ _ hbs]; exact k0
    have q1 : (W1.alloc (Obj.cells #[.int .i64 0, .int .i64 kd, .string nm, .string tx, .slice ao nn cp] 34)).cell? ⟨B, 1, none⟩ = some (.int .i64 kd) := by rw [World.cell?_alloc_past _ _ _ hbs]; exact k1
    have q2 : (W1.alloc (Obj.cells #[.int .i64 0, .int .i64 kd, .string nm, .string tx, .slice ao nn cp] 34)).cell? ⟨B, 2, none⟩ = some (.string nm) := by rw [World.cell?_alloc_past _ _ _ hbs]; exact k2
    have q3 : (W1.alloc (Obj.cells #[.int .i64 0, .int .i64 kd, .string nm, .string tx, .slice ao nn cp] 34)).cell? ⟨B, 3, none⟩ = some (.string tx) := by rw [World.cell?_alloc_past _ _ _ hbs]; exact k3
    have q4 : (W1.alloc (Obj.cells #[.int .i64 0, .int .i64 kd, .string nm, .string tx, .slice ao nn cp] 34)).cell? ⟨B, 4, none⟩ = some (.slice ao nn cp) := by rw [World.cell?_alloc_past _ _ _ hbs]; exact k4
    have hm : Hid (0 + 1 ≤ maxLen ∧ (0 + 1) * 72 ≤ 140737488355328 ∧ W0.heap.size ≤ W1.heap.size + 1) := hid ⟨by unfold maxLen; omega, by omega, by have := R1.out.bel.size; omega⟩
    go_region_law (
      refine step_append_lies _ rfl (.tmp 37) (.tmp 39) 23 rfl W0.heap.size 34 i0 (.agg #[.int .i64 0, .int .i64 0, .string ⟨#[]⟩, .string ⟨#[]⟩, .slice none 0 0]) 5 72 Tryz.underlying23 I0.out I1.out I2.out I3.out rfl (by decide) _ 0 (encI []) rfl HO.out ⟨W1.heap.size, 0, none⟩ 1 1 [.int .i64 0, .int .i64 kd, .string nm, .string tx, .slice ao nn cp] rfl rfl HN.out (one_fiveI (⟨0, kd, nm, tx, ats⟩, .slice ao nn cp) rfl) (by decide) hm.out.1 hm.out.2.1 (by simpa using hm.out.2.2) (W1.heap.size + 1) (by simp) ?_
      intro g' cap' w4 hown hgrow hgl _
      have G4 := hid (((R1.out.new (.cells #[.int .i64 0, .int .i64 kd, .string nm, .string tx, .slice ao nn cp] 34)).drewN 1).grow hgrow)
      have T4 : Hid (ItmRow W0.heap.size (.slice (some ⟨g', 0, none⟩) (0 + 1) cap') ([] ++ [(⟨0, kd, nm, tx, ats⟩, .slice ao nn cp)]) w4) := hid (by
        refine ⟨by rw [encI_snoc, List.length_append]; exact hown, fun y hy => ?_⟩
        have keep : ∀ {base : Nat} {y : Value} {q : Nat} {xs : List Value}, W1.ownsRow base 67 2 y q xs → w4.ownsRow base 67 2 y q xs := fun {base y q xs} h =>
          World.ownsRow.kept (w := (W1.alloc (Obj.cells #[.int .i64 0, .int .i64 kd, .string nm, .string tx, .slice ao nn cp] 34)).drew) (World.ownsRow.alloc h _) hgrow (rows_two h R1.out.itm.1 (by decide))
        rcases List.mem_append.1 hy with hy | hy
        · exact keep (R1.out.itm.2 y hy)
        · simp only [List.mem_singleton] at hy
          subst hy
          exact keep A1.out)
      have e0 : w4.cell? ⟨b, 0, none⟩ = some (.slice aoI 0 capI) := cell_of_row w4 b 0 _ _ _ G4.out.1
      have h0 : w4.frozen? ⟨b, 0, none⟩ = false := frozen_of_row w4 b 0 _ _ G4.out.1
      clear hown hgrow hgl)
    all_goals
      go_wp2
      go_ret
      exact ⟨rfl, _, DR.turn R1.out G4.out T4.out⟩
  · have h0' : (lv == 0) = false := beq_eq_false_iff_ne.2 h0
    go_wp2
    generalize w.alloc (.cells #[.int .i64 lv, .int .i64 kd, .string nm, .string tx, .slice ao nn cp] 34) = W1 at *
    generalize w.heap.size = B at *
    have HO : Hid ((W1.alloc (Obj.cells #[.int .i64 lv, .int .i64 kd, .string nm, .string tx, .slice ao nn cp] 34)).drew.ownsRow W0.heap.size 34 5 (.slice aoI its.length capI) its.length (encI its)) := hid (R1.out.new _).itm.1
    have HN : Hid (∀ q u, [Value.int .i64 lv, .int .i64 kd, .string nm, .string tx, .slice ao nn cp][q]? = some u → (W1.alloc (Obj.cells #[.int .i64 lv, .int .i64 kd, .string nm, .string tx, .slice ao nn cp] 34)).drew.cell? ((⟨W1.heap.size, 0, none⟩ : Addr).add q) = some u) :=
      hid (World.news_of_block (w := (W1.alloc (Obj.cells #[.int .i64 lv, .int .i64 kd, .string nm, .string tx, .slice ao nn cp] 34)).drew) (cs := #[.int .i64 lv, .int .i64 kd, .string nm, .string tx, .slice ao nn cp]) (heap_alloc_new W1 _))
    have a0 : (W1.alloc (Obj.cells #[.int .i64 lv, .int .i64 kd, .string nm, .string tx, .slice ao nn cp] 34)).cell? ⟨b, 0, none⟩ = some (.slice aoI its.length capI) := by rw [World.cell?_alloc_past _ _ _ R1.out.lt]; exact c1
    have q0 : (W1.alloc (Obj.cells #[.int .i64 lv, .int .i64 kd, .string nm, .string tx, .slice ao nn cp] 34)).cell? ⟨B, 0, none⟩ = some (.int .i64 lv) := by rw [World.cell?_alloc_past _ _ _ hbs]; exact k0
    have q1 : (W1.alloc (Obj.cells #[.int .i64 lv, .int .i64 kd, .string nm, .string tx, .slice ao nn cp] 34)).cell? ⟨B, 1, none⟩ = some (.int .i64 kd) := by rw [World.cell?_alloc_past _ _ _ hbs]; exact k1
    have q2 : (W1.alloc (Obj.cells #[.int .i64 lv, .int .i64 kd, .string nm, .string tx, .slice ao nn cp] 34)).cell? ⟨B, 2, none⟩ = some (.string nm) := by rw [World.cell?_alloc_past _ _ _ hbs]; exact k2
    have q3 : (W1.alloc (Obj.cells #[.int .i64 lv, .int .i64 kd, .string nm, .string tx, .slice ao nn cp] 34)).cell? ⟨B, 3, none⟩ = some (.string tx) := by rw [World.cell?_alloc_past _ _ _ hbs]; exact k3
    have q4 : (W1.alloc (Obj.cells #[.int .i64 lv, .int .i64 kd, .string nm, .string tx, .slice ao nn cp] 34)).cell? ⟨B, 4, none⟩ = some (.slice ao nn cp) := by rw [World.cell?_alloc_past _ _ _ hbs]; exact k4
    have hm : Hid (its.length + 1 ≤ maxLen ∧ (its.length + 1) * 72 ≤ 140737488355328 ∧ W0.heap.size ≤ W1.heap.size + 1) := hid ⟨by unfold maxLen; omega, by omega, by have := R1.out.bel.size; omega⟩
    go_region_law (
      refine step_append_lies _ rfl (.tmp 37) (.tmp 39) 23 rfl W0.heap.size 34 i0 (.agg #[.int .i64 0, .int .i64 0, .string ⟨#[]⟩, .string ⟨#[]⟩, .slice none 0 0]) 5 72 Tryz.underlying23 I0.out I1.out I2.out I3.out rfl (by decide) _ its.length (encI its) rfl HO.out ⟨W1.heap.size, 0, none⟩ 1 1 [.int .i64 lv, .int .i64 kd, .string nm, .string tx, .slice ao nn cp] rfl rfl HN.out (one_fiveI (⟨lv, kd, nm, tx, ats⟩, .slice ao nn cp) rfl) (by decide) hm.out.1 hm.out.2.1 (by simpa using hm.out.2.2) (W1.heap.size + 1) (by simp) ?_
      intro g' cap' w4 hown hgrow hgl _
      have G4 := hid (((R1.out.new (.cells #[.int .i64 lv, .int .i64 kd, .string nm, .string tx, .slice ao nn cp] 34)).drewN 1).grow hgrow)
      have T4 : Hid (ItmRow W0.heap.size (.slice (some ⟨g', 0, none⟩) (its.length + 1) cap') (its ++ [(⟨lv, kd, nm, tx, ats⟩, .slice ao nn cp)]) w4) := hid (by
        refine ⟨by rw [encI_snoc, List.length_append]; exact hown, fun y hy => ?_⟩
        have keep : ∀ {base : Nat} {y : Value} {q : Nat} {xs : List Value}, W1.ownsRow base 67 2 y q xs → w4.ownsRow base 67 2 y q xs := fun {base y q xs} h =>
          World.ownsRow.kept (w := (W1.alloc (Obj.cells #[.int .i64 lv, .int .i64 kd, .string nm, .string tx, .slice ao nn cp] 34)).drew) (World.ownsRow.alloc h _) hgrow (rows_two h R1.out.itm.1 (by decide))
        rcases List.mem_append.1 hy with hy | hy
        · exact keep (R1.out.itm.2 y hy)
        · simp only [List.mem_singleton] at hy
          subst hy
          exact keep A1.out)
      have e0 : w4.cell? ⟨b, 0, none⟩ = some (.slice aoI its.length capI) := cell_of_row w4 b 0 _ _ _ G4.out.1
      have h0 : w4.frozen? ⟨b, 0, none⟩ = false := frozen_of_row w4 b 0 _ _ G4.out.1
      clear hown hgrow hgl)
    all_goals
      go_wp2
      go_ret
      exact ⟨rfl, _, DR.turn R1.out G4.out T4.out⟩
end
end Go.Proofs.YtafjffnijonglaaGreatDoor
namespace Go.Proofs.YtafjffnijonglaaGreatDoor
open Go.RowKit Go.Shelf
section
variable {W0 : World} {b : Nat} {VI VN : Value} {its : List IV} {op : List ByteArray} {w : World}
set_option maxRecDepth 100000 in
set_option maxHeartbeats 1000000 in
theorem whole_any (R : Hid (DR W0 b VI VN its op w)) :
    Calls Tryz.prog 13 #[.pointer (some ⟨b, 0, none⟩)] w fun e w' => e = .returned (.int .i64 (if its.length = 0 then 40 else if op.length ≠ 0 then 41 else 0)) ∧ w' = w := by
  obtain ⟨aoI, capI, rfl⟩ := R.out.form
  obtain ⟨aoN, capN, rfl⟩ := R.out.formN
  have c0 := R.out.cell 0
  have c1 := R.out.cell 1
  simp only [List.getElem?_toArray, List.getElem?_cons_zero, List.getElem?_cons_succ] at c0 c1
  clear R
  generalize its.length = m at *
  generalize op.length = n at *
  by_cases hm : m = 0
  · subst hm
    go_enter Tryz.func13, Tryz.ntmps13
    go_wp2
    go_ret
    exact ⟨rfl, rfl⟩
  · rw [if_neg hm]
    have hm' : ((m : Int) == 0) = false := beq_eq_false_iff_ne.2 (by omega)
    by_cases hn : n = 0
    · subst hn
      clear hm
      go_enter Tryz.func13, Tryz.ntmps13
      go_wp2
      go_ret
      exact ⟨rfl, rfl⟩
    · rw [if_pos hn]
      have hn' : (0 : Int) < (n : Int) := by omega
      clear hm hn
      go_enter Tryz.func13, Tryz.ntmps13
      go_wp2
      go_ret
      exact ⟨rfl, rfl⟩
/-- A store into a block of items that is none of the draft's. -/
theorem DR.far (h : DR W0 b VI VN its op w) {c : Nat} {cs : Array Value} (hc : w.heap[c]? = some (.cells cs 34 (0, 0))) (h1 : W0.heap.size ≤ c) (h3 : VI.ownBlock ≠ some c) (j : Nat) (u : Value) : DR W0 b VI VN its op (w.setCell ⟨c, j, none⟩ u) := by
  refine ⟨h.tab, h.low, h.bel.setCell (p := ⟨c, j, none⟩) h1 u, ?_, ⟨?_, fun x hx => row_set (h.itm.2 x hx) hc (by decide)⟩, names_set h.nam hc (by decide)⟩
  · rw [heap_setCell_other w ⟨c, j, none⟩ b u (fun q => by
      have q' : b = c := q
      have := h.obj
      rw [q', hc] at this
      simp only [Option.some.injEq, Obj.cells.injEq] at this
      exact absurd this.2.1 (by decide))]
    exact h.obj
  · obtain ⟨h4, h5⟩ := h.itm.1
    refine ⟨h4, ?_⟩
    rcases h5 with h5 | ⟨g, cap, cur, rfl, h6, h7, h8⟩
    · exact Or.inl h5
    · refine Or.inr ⟨g, cap, cur, rfl, h6, ?_, h8⟩
      rw [heap_setCell_other w ⟨c, j, none⟩ g u (fun q => h3 (by have q' : g = c := q; simp [Value.ownBlock, q']))]
      exact h7
def TakePost (W0 : World) (b : Nat) (w : World) (res : Except Int (List P.Itm × List ByteArray)) (e : Ending) (w' : World) : Prop :=
  (∃ e0, res = .error e0 ∧ e0 ≠ 0 ∧ e = .returned (.int .i64 e0) ∧ Below W0.heap.size W0 w' ∧ ∀ c, c < w.heap.size → c ≠ b → w'.heap[c]? = w.heap[c]?) ∨
  (∃ VI' VN' its' op', res = .ok (its'.map (·.1), op') ∧ e = .returned (.int .i64 0) ∧ DR W0 b VI' VN' its' op' w')
theorem two_new (w : World) (o o' : Obj) : Below w.heap.size w ((w.alloc o).alloc o') := ((Below.refl _ _).alloc (Nat.le_refl _) o).alloc (by simp) o'
set_option maxRecDepth 100000 in
set_option maxHeartbeats 4000000 in
theorem take_end (R : Hid (DR W0 b VI VN its op w)) (t : L.Tok) (v : Value) (hv : ∃ ao nn cp, v = .slice ao nn cp) (hk : t.kind = 2) (ho : op.length ≤ 1048576) :
    Calls Tryz.prog 12 #[.pointer (some ⟨b, 0, none⟩), tokV t v] w (TakePost W0 b w (P.takeP (its.map (·.1)) op t)) := by
  obtain ⟨ao, nn, cp, rfl⟩ := hv
  obtain ⟨kd, ps, nm, tx, ats⟩ := t
  obtain rfl : kd = 2 := hk
  obtain ⟨aoN, capN, rfl⟩ := R.out.formN
  have c1 := R.out.cell 1
  simp only [List.getElem?_toArray, List.getElem?_cons_zero, List.getElem?_cons_succ] at c1
  have hb := R.out.lt
  have d1 : (w.alloc (.cells #[.int .i64 2, .int .i64 (ps : Int), .string nm, .string tx, .slice ao nn cp] 40)).cell? ⟨b, 1, none⟩ = some (.slice aoN op.length capN) := by rw [World.cell?_alloc_past _ _ _ hb]; exact c1
  have R2 := hid ((R.out.new (.cells #[.int .i64 2, .int .i64 (ps : Int), .string nm, .string tx, .slice ao nn cp] 40)).new (.cells #[.int .i64 (op.length : Int), .int .i64 2, .string ⟨#[]⟩, .string tx, .slice none 0 0] 34))
  have d2 := R2.out.cell 1
  have f2 := R2.out.frozen 1
  simp only [List.getElem?_toArray, List.getElem?_cons_zero, List.getElem?_cons_succ] at d2
  clear R c1
  unfold tokV
  go_enter Tryz.func12, Tryz.ntmps12
  go_wp2_with fail
  refine (closes_any R2.out.nam nm ho).mono ?_
  rintro e w1 ⟨rfl, rfl⟩
  cases hc : P.closesB op nm with
  | false =>
    have HR : Hid (P.takeP (its.map (·.1)) op ⟨2, ps, nm, tx, ats⟩ = .error 41) := hid (by simp [P.takeP, hc])
    clear hc
    have HK := hid (two_new w (.cells #[.int .i64 2, .int .i64 (ps : Int), .string nm, .string tx, .slice ao nn cp] 40) (.cells #[.int .i64 (op.length : Int), .int .i64 2, .string ⟨#[]⟩, .string tx, .slice none 0 0] 34))
    go_wp2
    go_ret
    exact Or.inl ⟨41, HR.out, by decide, rfl, R2.out.bel, fun c hc _ => HK.out.block c hc⟩
  | true =>
    have HR : Hid (P.takeP (its.map (·.1)) op ⟨2, ps, nm, tx, ats⟩ = .ok (its.map (·.1), op.dropLast)) := hid (by simp [P.takeP, hc])
    have hne : op ≠ [] := by rintro rfl; simp [P.closesB] at hc
    clear hc d1
    generalize ((w.alloc (.cells #[.int .i64 2, .int .i64 (ps : Int), .string nm, .string tx, .slice ao nn cp] 40)).alloc (.cells #[.int .i64 (op.length : Int), .int .i64 2, .string ⟨#[]⟩, .string tx, .slice none 0 0] 34)) = W1 at *
    go_wp2_with fail
    refine (outside_any R2.out.nam hne ho).mono ?_
    rintro e w1 ⟨V', rfl, hn, rfl⟩
    have R3 := hid (R2.out.setN hn)
    obtain ⟨ao', n', cap', rfl⟩ : ∃ ao n cap, V' = .slice ao n cap := by obtain ⟨ao', cap', h, _⟩ := hn.form; exact ⟨_, _, _, h⟩
    clear hn
    go_wp2
    go_ret
    exact Or.inr ⟨_, _, _, _, HR.out, rfl, R3.out⟩
set_option maxRecDepth 100000 in
set_option maxHeartbeats 4000000 in
theorem take_txt (R : Hid (DR W0 b VI VN its op w)) (t : L.Tok) (v : Value) (hv : ∃ ao nn cp, v = .slice ao nn cp) (hk : t.kind = 4) (hl : its.length ≤ 1048576) :
    Calls Tryz.prog 12 #[.pointer (some ⟨b, 0, none⟩), tokV t v] w (TakePost W0 b w (P.takeP (its.map (·.1)) op t)) := by
  obtain ⟨ao, nn, cp, rfl⟩ := hv
  obtain ⟨kd, ps, nm, tx, ats⟩ := t
  obtain rfl : kd = 4 := hk
  obtain ⟨aoN, capN, rfl⟩ := R.out.formN
  have c1 := R.out.cell 1
  simp only [List.getElem?_toArray, List.getElem?_cons_zero, List.getElem?_cons_succ] at c1
  have hb := R.out.lt
  have d1 : (w.alloc (.cells #[.int .i64 4, .int .i64 (ps : Int), .string nm, .string tx, .slice ao nn cp] 40)).cell? ⟨b, 1, none⟩ = some (.slice aoN op.length capN) := by rw [World.cell?_alloc_past _ _ _ hb]; exact c1
  have R2 := hid ((R.out.new (.cells #[.int .i64 4, .int .i64 (ps : Int), .string nm, .string tx, .slice ao nn cp] 40)).new (.cells #[.int .i64 (op.length : Int), .int .i64 2, .string ⟨#[]⟩, .string tx, .slice none 0 0] 34))
  clear R c1
  unfold tokV
  go_enter Tryz.func12, Tryz.ntmps12
  go_wp2_with fail
  by_cases he : P.addE its.length (P.itemOf op.length ⟨4, ps, nm, tx, ats⟩) = 0
  · have HR : Hid (P.takeP (its.map (·.1)) op ⟨4, ps, nm, tx, ats⟩ = .ok ((its ++ [((P.itemOf op.length ⟨4, ps, nm, tx, ats⟩, Value.slice none 0 0) : IV)]).map (fun y => y.1), op)) := hid (by simp [P.takeP, he])
    refine (add_ok R2 (P.itemOf op.length ⟨4, ps, nm, tx, ats⟩) (.slice none 0 0) ⟨_, _, _, rfl⟩ (hid (World.ownsRow_nil _ _ _ _)) hl (hid he)).mono ?_
    rintro e w1 ⟨rfl, VI', R3⟩
    have R4 := hid R3
    clear R3 he
    go_wp2
    go_ret
    exact Or.inr ⟨_, _, _, _, HR.out, rfl, R4.out⟩
  · have HR : Hid (P.takeP (its.map (·.1)) op ⟨4, ps, nm, tx, ats⟩ = .error (P.addE its.length (P.itemOf op.length ⟨4, ps, nm, tx, ats⟩))) := hid (by simp [P.takeP, he])
    refine (add_bad R2 (P.itemOf op.length ⟨4, ps, nm, tx, ats⟩) (.slice none 0 0) ⟨_, _, _, rfl⟩ hl _ (hid rfl) he).mono ?_
    rintro e w1 ⟨rfl, hb3⟩
    have HB := hid (R2.out.below hb3).bel
    have HK : Hid (∀ c, c < w.heap.size → c ≠ b → w1.heap[c]? = w.heap[c]?) := hid (fun c hc _ => by
      rw [hb3.block c (by simp; omega)]
      exact (two_new w (.cells #[.int .i64 4, .int .i64 (ps : Int), .string nm, .string tx, .slice ao nn cp] 40) (.cells #[.int .i64 (op.length : Int), .int .i64 2, .string ⟨#[]⟩, .string tx, .slice none 0 0] 34)).block c hc)
    have HN := hid he
    clear hb3 he
    generalize P.addE its.length (P.itemOf op.length ⟨4, ps, nm, tx, ats⟩) = e0 at *
    go_wp2
    go_ret
    exact Or.inl ⟨_, HR.out, HN.out, rfl, HB.out, HK.out⟩
set_option maxRecDepth 100000 in
set_option maxHeartbeats 4000000 in
theorem take_both (R : Hid (DR W0 b VI VN its op w)) (t : L.Tok) (v : Value) (hv : ∃ ao nn cp, v = .slice ao nn cp) (HA : Hid (w.ownsRow W0.heap.size 67 2 v t.attrs.length (encL t.attrs))) (hk : t.kind = 3) (hl : its.length ≤ 1048576) :
    Calls Tryz.prog 12 #[.pointer (some ⟨b, 0, none⟩), tokV t v] w (TakePost W0 b w (P.takeP (its.map (·.1)) op t)) := by
  obtain ⟨ao, nn, cp, rfl⟩ := hv
  obtain ⟨kd, ps, nm, tx, ats⟩ := t
  obtain rfl : kd = 3 := hk
  obtain ⟨aoN, capN, rfl⟩ := R.out.formN
  have c1 := R.out.cell 1
  simp only [List.getElem?_toArray, List.getElem?_cons_zero, List.getElem?_cons_succ] at c1
  have hb := R.out.lt
  have d1 : (w.alloc (.cells #[.int .i64 3, .int .i64 (ps : Int), .string nm, .string tx, .slice ao nn cp] 40)).cell? ⟨b, 1, none⟩ = some (.slice aoN op.length capN) := by rw [World.cell?_alloc_past _ _ _ hb]; exact c1
  have A2 : Hid (((w.alloc (.cells #[.int .i64 3, .int .i64 (ps : Int), .string nm, .string tx, .slice ao nn cp] 40)).alloc (.cells #[.int .i64 (op.length : Int), .int .i64 1, .string nm, .string ⟨#[]⟩, .slice ao nn cp] 34)).ownsRow W0.heap.size 67 2 (.slice ao nn cp) ats.length (encL ats)) := hid (World.ownsRow.alloc (World.ownsRow.alloc HA.out _) _)
  have R2 := hid ((R.out.new (.cells #[.int .i64 3, .int .i64 (ps : Int), .string nm, .string tx, .slice ao nn cp] 40)).new (.cells #[.int .i64 (op.length : Int), .int .i64 1, .string nm, .string ⟨#[]⟩, .slice ao nn cp] 34))
  clear R c1 HA
  unfold tokV
  go_enter Tryz.func12, Tryz.ntmps12
  go_wp2_with fail
  by_cases he : P.addE its.length (P.itemOf op.length ⟨3, ps, nm, tx, ats⟩) = 0
  · have HR : Hid (P.takeP (its.map (·.1)) op ⟨3, ps, nm, tx, ats⟩ = .ok ((its ++ [((P.itemOf op.length ⟨3, ps, nm, tx, ats⟩, Value.slice ao nn cp) : IV)]).map (fun y => y.1), op)) := hid (by simp [P.takeP, he])
    refine (add_ok R2 (P.itemOf op.length ⟨3, ps, nm, tx, ats⟩) (.slice ao nn cp) ⟨_, _, _, rfl⟩ A2 hl (hid he)).mono ?_
    rintro e w1 ⟨rfl, VI', R3⟩
    have R4 := hid R3
    clear R3 he
    go_wp2
    go_ret
    exact Or.inr ⟨_, _, _, _, HR.out, rfl, R4.out⟩
  · have HR : Hid (P.takeP (its.map (·.1)) op ⟨3, ps, nm, tx, ats⟩ = .error (P.addE its.length (P.itemOf op.length ⟨3, ps, nm, tx, ats⟩))) := hid (by simp [P.takeP, he])
    refine (add_bad R2 (P.itemOf op.length ⟨3, ps, nm, tx, ats⟩) (.slice ao nn cp) ⟨_, _, _, rfl⟩ hl _ (hid rfl) he).mono ?_
    rintro e w1 ⟨rfl, hb3⟩
    have HB := hid (R2.out.below hb3).bel
    have HK : Hid (∀ c, c < w.heap.size → c ≠ b → w1.heap[c]? = w.heap[c]?) := hid (fun c hc _ => by
      rw [hb3.block c (by simp; omega)]
      exact (two_new w (.cells #[.int .i64 3, .int .i64 (ps : Int), .string nm, .string tx, .slice ao nn cp] 40) (.cells #[.int .i64 (op.length : Int), .int .i64 1, .string nm, .string ⟨#[]⟩, .slice ao nn cp] 34)).block c hc)
    have HN := hid he
    clear hb3 he
    generalize P.addE its.length (P.itemOf op.length ⟨3, ps, nm, tx, ats⟩) = e0 at *
    go_wp2
    go_ret
    exact Or.inl ⟨_, HR.out, HN.out, rfl, HB.out, HK.out⟩
set_option maxRecDepth 100000 in
set_option maxHeartbeats 4000000 in
theorem take_beg (R : Hid (DR W0 b VI VN its op w)) (t : L.Tok) (v : Value) (hv : ∃ ao nn cp, v = .slice ao nn cp) (HA : Hid (w.ownsRow W0.heap.size 67 2 v t.attrs.length (encL t.attrs))) (hk : t.kind = 1) (ho : op.length ≤ 1048575) (hl : its.length ≤ 1048576) :
    Calls Tryz.prog 12 #[.pointer (some ⟨b, 0, none⟩), tokV t v] w (TakePost W0 b w (P.takeP (its.map (·.1)) op t)) := by
  obtain ⟨ao, nn, cp, rfl⟩ := hv
  obtain ⟨kd, ps, nm, tx, ats⟩ := t
  obtain rfl : kd = 1 := hk
  obtain ⟨aoN, capN, rfl⟩ := R.out.formN
  have c1 := R.out.cell 1
  simp only [List.getElem?_toArray, List.getElem?_cons_zero, List.getElem?_cons_succ] at c1
  have hb := R.out.lt
  have hown : VI.ownBlock ≠ some (w.heap.size + 1) := fun q => by have := (World.ownsRow.lt R.out.itm.1 _ q).2; omega
  have d1 : (w.alloc (.cells #[.int .i64 1, .int .i64 (ps : Int), .string nm, .string tx, .slice ao nn cp] 40)).cell? ⟨b, 1, none⟩ = some (.slice aoN op.length capN) := by rw [World.cell?_alloc_past _ _ _ hb]; exact c1
  have A2 : Hid (((w.alloc (.cells #[.int .i64 1, .int .i64 (ps : Int), .string nm, .string tx, .slice ao nn cp] 40)).alloc (.cells #[.int .i64 (op.length : Int), .int .i64 2, .string ⟨#[]⟩, .string tx, .slice none 0 0] 34)).ownsRow W0.heap.size 67 2 (.slice ao nn cp) ats.length (encL ats)) := hid (World.ownsRow.alloc (World.ownsRow.alloc HA.out _) _)
  have R2 := hid ((R.out.new (.cells #[.int .i64 1, .int .i64 (ps : Int), .string nm, .string tx, .slice ao nn cp] 40)).new (.cells #[.int .i64 (op.length : Int), .int .i64 2, .string ⟨#[]⟩, .string tx, .slice none 0 0] 34))
  have bT : Hid (((w.alloc (.cells #[.int .i64 1, .int .i64 (ps : Int), .string nm, .string tx, .slice ao nn cp] 40)).alloc (.cells #[.int .i64 (op.length : Int), .int .i64 2, .string ⟨#[]⟩, .string tx, .slice none 0 0] 34)).heap[w.heap.size]? = some (.cells #[.int .i64 1, .int .i64 (ps : Int), .string nm, .string tx, .slice ao nn cp] 40 (0, 0))) := hid (by rw [Below.heap_alloc _ _ _ (by simp)]; exact heap_alloc_new w _)
  have bI : Hid (((w.alloc (.cells #[.int .i64 1, .int .i64 (ps : Int), .string nm, .string tx, .slice ao nn cp] 40)).alloc (.cells #[.int .i64 (op.length : Int), .int .i64 2, .string ⟨#[]⟩, .string tx, .slice none 0 0] 34)).heap[w.heap.size + 1]? = some (.cells #[.int .i64 (op.length : Int), .int .i64 2, .string ⟨#[]⟩, .string tx, .slice none 0 0] 34 (0, 0))) := hid (by
    have h := heap_alloc_new (w.alloc (.cells #[.int .i64 1, .int .i64 (ps : Int), .string nm, .string tx, .slice ao nn cp] 40)) (.cells #[.int .i64 (op.length : Int), .int .i64 2, .string ⟨#[]⟩, .string tx, .slice none 0 0] 34)
    simpa using h)
  have hW : W0.heap.size ≤ w.heap.size + 1 := by have := R.out.bel.size; omega
  clear R c1 HA
  unfold tokV
  go_enter Tryz.func12, Tryz.ntmps12
  go_wp2_with fail
  refine (with_any R2.out.nam nm (by omega) (by have := R2.out.bel.size; exact this)).mono ?_
  rintro e w1 ⟨V', rfl, hn, hb1⟩
  have R3 := hid ((R2.out.below hb1).setN hn)
  have A3 := hid (row_below A2.out hb1)
  have oB := hid (R2.out.below hb1).obj
  have K1 : Hid (∀ c, c < w.heap.size → w1.heap[c]? = w.heap[c]?) := hid (fun c hc => by
    rw [hb1.block c (by simp; omega)]
    exact (two_new w (.cells #[.int .i64 1, .int .i64 (ps : Int), .string nm, .string tx, .slice ao nn cp] 40) (.cells #[.int .i64 (op.length : Int), .int .i64 2, .string ⟨#[]⟩, .string tx, .slice none 0 0] 34)).block c hc)
  have nB : b < w.heap.size := hb
  have bT1 := hid ((hb1.block _ (lt_of_block bT.out)).trans bT.out)
  have bI1 := hid ((hb1.block _ (lt_of_block bI.out)).trans bI.out)
  obtain ⟨ao', n', cap', rfl⟩ : ∃ ao n cap, V' = .slice ao n cap := by obtain ⟨ao', cap', h, _⟩ := hn.form; exact ⟨_, _, _, h⟩
  have o1 := (R2.out.below hb1).cell 1
  have o2 := (R2.out.below hb1).frozen 1
  simp only [List.getElem?_toArray, List.getElem?_cons_zero, List.getElem?_cons_succ] at o1
  clear hn hb1 R2 bT bI A2 d1 hb
  generalize hB : w.heap.size = B at *
  have HS := hid hB
  clear hB
  have x2 : w1.cell? ⟨B, 2, none⟩ = some (.string nm) := by rw [cell_of_row _ B 2 _ _ _ bT1.out]; rfl
  have x4 : w1.cell? ⟨B, 4, none⟩ = some (.slice ao nn cp) := by rw [cell_of_row _ B 4 _ _ _ bT1.out]; rfl
  have ne1 : b ≠ B := by omega
  have ne2 : b ≠ B + 1 := by omega
  have i0 : w1.cell? ⟨B + 1, 0, none⟩ = some (.int .i64 (op.length : Int)) := by rw [cell_of_row _ (B + 1) 0 _ _ _ bI1.out]; rfl
  have i1 : w1.cell? ⟨B + 1, 1, none⟩ = some (.int .i64 2) := by rw [cell_of_row _ (B + 1) 1 _ _ _ bI1.out]; rfl
  have i2 : w1.cell? ⟨B + 1, 2, none⟩ = some (.string ⟨#[]⟩) := by rw [cell_of_row _ (B + 1) 2 _ _ _ bI1.out]; rfl
  have i3 : w1.cell? ⟨B + 1, 3, none⟩ = some (.string tx) := by rw [cell_of_row _ (B + 1) 3 _ _ _ bI1.out]; rfl
  have i4 : w1.cell? ⟨B + 1, 4, none⟩ = some (.slice none 0 0) := by rw [cell_of_row _ (B + 1) 4 _ _ _ bI1.out]; rfl
  have j0 : w1.frozen? ⟨B + 1, 0, none⟩ = false := frozen_of_row _ (B + 1) 0 _ _ bI1.out
  have j1 : w1.frozen? ⟨B + 1, 1, none⟩ = false := frozen_of_row _ (B + 1) 1 _ _ bI1.out
  have j2 : w1.frozen? ⟨B + 1, 2, none⟩ = false := frozen_of_row _ (B + 1) 2 _ _ bI1.out
  have j3 : w1.frozen? ⟨B + 1, 3, none⟩ = false := frozen_of_row _ (B + 1) 3 _ _ bI1.out
  have j4 : w1.frozen? ⟨B + 1, 4, none⟩ = false := frozen_of_row _ (B + 1) 4 _ _ bI1.out
  have s0 : (w1.setCell ⟨b, 1, none⟩ (.slice ao' n' cap')).heap[B + 1]? = some (.cells #[.int .i64 (op.length : Int), .int .i64 2, .string ⟨#[]⟩, .string tx, .slice none 0 0] 34 (0, 0)) := by rw [heap_setCell_other _ ⟨b, 1, none⟩ (B + 1) _ (Ne.symm ne2)]; exact bI1.out
  have r0 := R3.out.far s0 hW hown 0 (.int .i64 (op.length : Int))
  have s1 := heap_setCell_same _ (B + 1) 0 _ _ (.int .i64 (op.length : Int)) s0
  have r1 := r0.far s1 hW hown 1 (.int .i64 1)
  have s2 := heap_setCell_same _ (B + 1) 1 _ _ (.int .i64 1) s1
  have r2 := r1.far s2 hW hown 2 (.string nm)
  have s3 := heap_setCell_same _ (B + 1) 2 _ _ (.string nm) s2
  have r3 := r2.far s3 hW hown 3 (.string ⟨#[]⟩)
  have s4 := heap_setCell_same _ (B + 1) 3 _ _ (.string ⟨#[]⟩) s3
  have r4 := hid (r3.far s4 hW hown 4 (.slice ao nn cp))
  have A4 := hid (row_set (j := 4) (u := .slice ao nn cp) (row_set (j := 3) (u := .string ⟨#[]⟩) (row_set (j := 2) (u := .string nm) (row_set (j := 1) (u := .int .i64 1) (row_set (j := 0) (u := .int .i64 (op.length : Int)) (row_set (j := 1) (u := .slice ao' n' cap') A3.out oB.out (by decide)) s0 (by decide)) s1 (by decide)) s2 (by decide)) s3 (by decide)) s4 (by decide))
  have K4 : Hid (∀ c, c < B → c ≠ b → ((((((w1.setCell ⟨b, 1, none⟩ (.slice ao' n' cap')).setCell ⟨B + 1, 0, none⟩ (.int .i64 (op.length : Int))).setCell ⟨B + 1, 1, none⟩ (.int .i64 1)).setCell ⟨B + 1, 2, none⟩ (.string nm)).setCell ⟨B + 1, 3, none⟩ (.string ⟨#[]⟩)).setCell ⟨B + 1, 4, none⟩ (.slice ao nn cp)).heap[c]? = w.heap[c]?) := hid (fun c hc hcb => by
    have hc' : c ≠ B + 1 := by omega
    rw [heap_setCell_other _ ⟨B + 1, 4, none⟩ c _ hc', heap_setCell_other _ ⟨B + 1, 3, none⟩ c _ hc', heap_setCell_other _ ⟨B + 1, 2, none⟩ c _ hc', heap_setCell_other _ ⟨B + 1, 1, none⟩ c _ hc', heap_setCell_other _ ⟨B + 1, 0, none⟩ c _ hc', heap_setCell_other _ ⟨b, 1, none⟩ c _ hcb]
    exact K1.out c hc)
  have hsz : B + 1 < ((((((w1.setCell ⟨b, 1, none⟩ (.slice ao' n' cap')).setCell ⟨B + 1, 0, none⟩ (.int .i64 (op.length : Int))).setCell ⟨B + 1, 1, none⟩ (.int .i64 1)).setCell ⟨B + 1, 2, none⟩ (.string nm)).setCell ⟨B + 1, 3, none⟩ (.string ⟨#[]⟩)).setCell ⟨B + 1, 4, none⟩ (.slice ao nn cp)).heap.size := by have := lt_of_block bI1.out; simpa using this
  clear r0 r1 r2 r3 s0 s1 s2 s3 s4 R3 A3
  go_wp2_with fail
  by_cases he : P.addE its.length (P.itemOf op.length ⟨1, ps, nm, tx, ats⟩) = 0
  · have HR : Hid (P.takeP (its.map (·.1)) op ⟨1, ps, nm, tx, ats⟩ = .ok ((its ++ [((P.itemOf op.length ⟨1, ps, nm, tx, ats⟩, Value.slice ao nn cp) : IV)]).map (fun y => y.1), op ++ [nm])) := hid (by simp [P.takeP, he])
    refine (add_ok r4 (P.itemOf op.length ⟨1, ps, nm, tx, ats⟩) (.slice ao nn cp) ⟨_, _, _, rfl⟩ A4 hl (hid he)).mono ?_
    rintro e w5 ⟨rfl, VI', R5⟩
    have R6 := hid R5
    clear R5 he
    go_wp2
    go_ret
    exact Or.inr ⟨_, _, _, _, HR.out, rfl, R6.out⟩
  · have HR : Hid (P.takeP (its.map (·.1)) op ⟨1, ps, nm, tx, ats⟩ = .error (P.addE its.length (P.itemOf op.length ⟨1, ps, nm, tx, ats⟩))) := hid (by simp [P.takeP, he])
    refine (add_bad r4 (P.itemOf op.length ⟨1, ps, nm, tx, ats⟩) (.slice ao nn cp) ⟨_, _, _, rfl⟩ hl _ (hid rfl) he).mono ?_
    rintro e w5 ⟨rfl, hb5⟩
    have HB := hid (r4.out.below hb5).bel
    have HK : Hid (∀ c, c < B → c ≠ b → w5.heap[c]? = w.heap[c]?) := hid (fun c hc hcb => by
      rw [hb5.block c (by omega)]
      exact K4.out c hc hcb)
    have HN := hid he
    clear hb5 he
    generalize P.addE its.length (P.itemOf op.length ⟨1, ps, nm, tx, ats⟩) = e0 at *
    go_wp2
    go_ret
    exact Or.inl ⟨_, HR.out, HN.out, rfl, HB.out, fun c hc hcb => HK.out c (HS.out ▸ hc) hcb⟩
theorem take_any (R : Hid (DR W0 b VI VN its op w)) (t : L.Tok) (v : Value) (HA : Hid (w.ownsRow W0.heap.size 67 2 v t.attrs.length (encL t.attrs))) (hk : t.kind = 1 ∨ t.kind = 2 ∨ t.kind = 3 ∨ t.kind = 4) (ho : op.length ≤ 1048575) (hl : its.length ≤ 1048576) :
    Calls Tryz.prog 12 #[.pointer (some ⟨b, 0, none⟩), tokV t v] w (TakePost W0 b w (P.takeP (its.map (·.1)) op t)) := by
  have hv : ∃ ao nn cp, v = .slice ao nn cp := by
    rcases HA.out.2 with ⟨h, _⟩ | ⟨_, _, _, h, _⟩
    · exact ⟨_, _, _, h⟩
    · exact ⟨_, _, _, h⟩
  rcases hk with hk | hk | hk | hk
  · exact take_beg R t v hv HA hk ho hl
  · exact take_end R t v hv hk (by omega)
  · exact take_both R t v hv HA hk hl
  · exact take_txt R t v hv hk hl
end
end Go.Proofs.YtafjffnijonglaaGreatDoor
namespace Go.Proofs.YtafjffnijonglaaGreatDoor
open Go.RowKit Go.Shelf
def ParsePost (w : World) (res : Except L.Bad (List P.Itm)) (e : Ending) (w' : World) : Prop :=
  Below w.heap.size w w' ∧
  ((∃ (q e0 : Int), res = .error (q, e0) ∧ e0 ≠ 0 ∧ e = .returned (.tuple #[.slice none 0 0, .int .i64 q, .int .i64 e0])) ∨
   (∃ (l : List IV) (V : Value), res = .ok (l.map (·.1)) ∧ e = .returned (.tuple #[V, .int .i64 0, .int .i64 0]) ∧ ItmRow w.heap.size V l w'))
set_option maxRecDepth 100000 in
set_option maxHeartbeats 4000000 in
theorem parse_any (s : ByteArray) (w : World) (ht : Tab w) (hz : s.size ≤ 1048575) (res : Except L.Bad (List P.Itm)) (H : Hid (P.parseP s = res)) :
    Calls Tryz.prog 6 #[.string s] w (ParsePost w res) := by
  have HT := hid ht
  clear ht
  have D0 : Hid (DR w w.heap.size (.slice none 0 0) (.slice none 0 0) [] [] (w.alloc (.cells #[.slice none 0 0, .slice none 0 0] 38))) := hid
    ⟨HT.out, Nat.le_refl _, (Below.refl _ _).alloc (Nat.le_refl _) _, heap_alloc_new w _, ⟨World.ownsRow_nil _ _ _ _, by simp⟩, Or.inl ⟨rfl, rfl⟩⟩
  go_enter Tryz.func6, Tryz.ntmps6
  go_wp2
  go_loopw [6] (fun v6 W => ∃ (i g : Nat) (VI VN : Value) (its : List IV) (op : List ByteArray), v6 = .int .i64 (i : Int) ∧ i ≤ s.size ∧ s.size - i < g ∧ its.length ≤ i ∧ op.length ≤ i ∧ Hid (P.parseF g s i (its.map (·.1)) op = res) ∧ Hid (DR w w.heap.size VI VN its op W)) (fun v6 _ => s.size - (intOf v6).toNat)
  case atStart => exact ⟨0, s.size + 1, _, _, [], [], rfl, by omega, by omega, by simp, by simp, H, D0⟩
  case round =>
    clear H D0
    obtain ⟨i, g, VI, VN, its, op, rfl, hi, hg, hl, ho, H, HD⟩ := hrel
    by_cases hlt : i < s.size
    · have hlt' : (i : Int) < (s.size : Int) := by omega
      go_wp2_with fail
      refine Calls.mono (one_any s (i : Int) wr HD.out.tabw (by omega)) ?_
      rw [oneP_nat hlt]
      rintro e w1 ⟨hb1, ⟨q, e0, h1, h2, rfl⟩ | ⟨t, n, v, h1, rfl, h3⟩⟩
      · have HR : Hid (res = .error (q, e0)) := by show _ = _; rw [← H.out, P.parse_bad (by omega) hlt h1]
        have b1 : (e0 == 0) = false := beq_eq_false_iff_ne.2 h2
        have HE := hid h2
        have HB2 : Hid (Below w.heap.size w w1) := hid (HD.out.below hb1).bel
        clear h1 h2 hb1
        unfold zeroT
        go_wp2
        go_ret3
        refine ⟨HB2.out.alloc HB2.out.size _, Or.inl ⟨q, e0, HR.out, HE.out, rfl⟩⟩
      · have hn := L.one_go hlt h1
        obtain ⟨may, -, -⟩ := L.one_may hlt h1
        have HO := hid h1
        have HK := hid may.1
        have bs : w.heap.size ≤ wr.heap.size := HD.out.bel.size
        have H3 : Hid (w1.ownsRow w.heap.size 67 2 v t.attrs.length (encL t.attrs)) := hid (row_base h3 bs)
        obtain ⟨ao, nn, cp, rfl⟩ : ∃ ao nn cp, v = .slice ao nn cp := by
          rcases h3.2 with ⟨h, _⟩ | ⟨_, _, _, h, _⟩
          · exact ⟨_, _, _, h⟩
          · exact ⟨_, _, _, h⟩
        have D2 := hid ((HD.out.below hb1).new (.cells #[.int .i64 t.kind, .int .i64 (t.pos : Int), .string t.name, .string t.text, .slice ao nn cp] 40))
        have A2 := hid (World.ownsRow.alloc H3.out (.cells #[.int .i64 t.kind, .int .i64 (t.pos : Int), .string t.name, .string t.text, .slice ao nn cp] 40))
        have T2 := hid (heap_alloc_new w1 (.cells #[.int .i64 t.kind, .int .i64 (t.pos : Int), .string t.name, .string t.text, .slice ao nn cp] 40))
        have hnb : Hid (w1.heap.size ≠ w.heap.size ∧ w1.heap.size < (w1.alloc (.cells #[.int .i64 t.kind, .int .i64 (t.pos : Int), .string t.name, .string t.text, .slice ao nn cp] 40)).heap.size) := hid ⟨by have := (HD.out.below hb1).lt; omega, by simp⟩
        clear h1 hb1 h3 may HD H3
        unfold tokV
        go_wp2_with fail
        refine Calls.mono (take_any D2 t (.slice ao nn cp) A2 HK.out (by omega) (by omega)) ?_
        rintro e w3 (⟨e0, h4, h5, rfl, hb3, hk3⟩ | ⟨VI', VN', its', op', h4, rfl, hd3⟩)
        · have HR : Hid (res = .error ((t.pos : Int), e0)) := by show _ = _; rw [← H.out, P.parse_no (by omega) hlt HO.out h4]
          have b1 : (e0 == 0) = false := beq_eq_false_iff_ne.2 h5
          have HE := hid h5
          have HB := hid hb3
          have ct : w3.cell? ⟨w1.heap.size, 1, none⟩ = some (.int .i64 (t.pos : Int)) := by
            rw [cell_of_row w3 w1.heap.size 1 _ _ _ ((hk3 _ hnb.out.2 hnb.out.1).trans T2.out)]; rfl
          clear h4 h5 hb3 hk3 D2 A2 T2 hnb
          generalize w1.heap.size = Bt at *
          go_wp2_with fail
          go_quiet (fail)
          go_wp2
          go_ret3
          refine ⟨?_, Or.inl ⟨(t.pos : Int), e0, HR.out, HE.out, rfl⟩⟩
          first | exact HB.out | exact ⟨HB.out.os, HB.out.tape, HB.out.output, HB.out.size, HB.out.block⟩
        · have HN : Hid (P.parseF (g - 1) s n (its'.map (·.1)) op' = res) := by show _ = _; rw [← H.out, P.parse_next (by omega) hlt HO.out h4]
          have hle := P.take_len h4
          have D3 := hid hd3
          simp only [List.length_map] at hle
          clear h4 hd3 D2 A2 T2 hnb
          go_wp2
          go_roundw
          case rel => exact ⟨n, g - 1, _, _, its', op', rfl, by omega, by omega, by omega, by omega, HN, D3⟩
          case measure => simp [intOf]; omega
    · have hlt' : ¬ (i : Int) < (s.size : Int) := by omega
      obtain ⟨aoI, capI, rfl⟩ := HD.out.form
      have c0 := HD.out.cell 0
      simp only [List.getElem?_toArray, List.getElem?_cons_zero] at c0
      go_wp2_with fail
      refine (whole_any HD).mono ?_
      rintro e w1 ⟨rfl, rfl⟩
      have HR : Hid (res = (if its.length = 0 then .error ((s.size : Int), 40) else if op.length ≠ 0 then .error ((s.size : Int), 41) else .ok (its.map (·.1)))) := by
        show _ = _
        rw [← H.out, P.parse_end (by omega) (by omega)]
        simp only [List.length_map]
      by_cases h0 : its.length = 0
      · have HR2 := HR.out
        rw [if_pos h0] at HR2
        have HR3 := hid HR2
        rw [if_pos h0]
        have HB := hid HD.out.bel
        clear HR HR2 HD H h0 c0
        go_wp2
        go_ret3
        exact ⟨HB.out, Or.inl ⟨_, _, HR3.out, by decide, rfl⟩⟩
      · have HR2 := HR.out
        rw [if_neg h0] at HR2
        rw [if_neg h0]
        by_cases h1 : op.length ≠ 0
        · rw [if_pos h1] at HR2
          rw [if_pos h1]
          have HR3 := hid HR2
          have HB := hid HD.out.bel
          clear HR HR2 HD H h0 h1 c0
          go_wp2
          go_ret3
          exact ⟨HB.out, Or.inl ⟨_, _, HR3.out, by decide, rfl⟩⟩
        · rw [if_neg h1] at HR2
          rw [if_neg h1]
          have HR3 := hid HR2
          have HB := hid HD.out.bel
          have HI := hid HD.out.itm
          clear HR HR2 HD H h0 h1
          go_wp2
          go_ret3
          exact ⟨HB.out, Or.inr ⟨its, _, HR3.out, rfl, HI.out⟩⟩
end Go.Proofs.YtafjffnijonglaaGreatDoor
namespace Go.Proofs.YtafjffnijonglaaGreatDoor
open Go.RowKit Go.Shelf
namespace P
def endG (l : List Itm) (z : Int) (to : Nat) : Nat := to + ((l.drop to).takeWhile fun x => decide (z < x.level)).length
theorem endG_yes {l : List Itm} {z : Int} {to : Nat} (h : to < l.length) (hz : z < l[to].level) : endG l z to = endG l z (to + 1) := by
  unfold endG
  rw [List.drop_eq_getElem_cons h, List.takeWhile_cons_of_pos (by simpa using hz)]
  simp
  omega
theorem endG_no {l : List Itm} {z : Int} {to : Nat} (h : to < l.length) (hz : ¬ z < l[to].level) : endG l z to = to := by
  unfold endG
  rw [List.drop_eq_getElem_cons h, List.takeWhile_cons_of_neg (by simpa using hz)]
  simp
theorem endG_end {l : List Itm} {z : Int} {to : Nat} (h : l.length ≤ to) : endG l z to = to := by
  unfold endG
  rw [List.drop_eq_nil_of_le h]
  simp
end P
/-- Attributes lie in memory. -/
def AttrsIn (v : Value) (l : List L.Attr) (w : World) : Prop :=
  ∃ ao cap, v = .slice ao l.length cap ∧ l.length ≤ 9223372036854775807 ∧ (l ≠ [] → ∃ g o, ao = some ⟨g, o, none⟩ ∧ g < w.heap.size ∧ ∀ j (h : j < l.length), w.cell? ⟨g, o + j * 2, none⟩ = some (.string l[j].1) ∧ w.cell? ⟨g, o + j * 2 + 1, none⟩ = some (.string l[j].2))
/-- Items lie in memory. -/
def ItemsIn (V : Value) (l : List IV) (w : World) : Prop :=
  (∃ ao cap, V = .slice ao l.length cap ∧ l.length ≤ 9223372036854775807 ∧ (l ≠ [] → ∃ g o, ao = some ⟨g, o, none⟩ ∧ g < w.heap.size ∧ ∀ j (h : j < l.length), w.cell? ⟨g, o + j * 5, none⟩ = some (.int .i64 l[j].1.level) ∧ w.cell? ⟨g, o + j * 5 + 1, none⟩ = some (.int .i64 l[j].1.kind) ∧ w.cell? ⟨g, o + j * 5 + 2, none⟩ = some (.string l[j].1.name) ∧ w.cell? ⟨g, o + j * 5 + 3, none⟩ = some (.string l[j].1.text) ∧ w.cell? ⟨g, o + j * 5 + 4, none⟩ = some l[j].2)) ∧
  ∀ x ∈ l, AttrsIn x.2 x.1.attrs w
theorem AttrsIn.below {v : Value} {l : List L.Attr} {w w' : World} (h : AttrsIn v l w) (hb : Below w.heap.size w w') : AttrsIn v l w' := by
  obtain ⟨ao, cap, h1, h2, h3⟩ := h
  refine ⟨ao, cap, h1, h2, fun hl => ?_⟩
  obtain ⟨g, o, h4, h5, h6⟩ := h3 hl
  refine ⟨g, o, h4, Nat.lt_of_lt_of_le h5 hb.size, fun j hj => ?_⟩
  obtain ⟨k0, k1⟩ := h6 j hj
  exact ⟨(hb.cell (p := ⟨g, o + j * 2, none⟩) h5).trans k0, (hb.cell (p := ⟨g, o + j * 2 + 1, none⟩) h5).trans k1⟩
theorem ItemsIn.below {V : Value} {l : List IV} {w w' : World} (h : ItemsIn V l w) (hb : Below w.heap.size w w') : ItemsIn V l w' := by
  refine ⟨?_, fun x hx => (h.2 x hx).below hb⟩
  obtain ⟨ao, cap, h1, h2, h3⟩ := h.1
  refine ⟨ao, cap, h1, h2, fun hl => ?_⟩
  obtain ⟨g, o, h4, h5, h6⟩ := h3 hl
  refine ⟨g, o, h4, Nat.lt_of_lt_of_le h5 hb.size, fun j hj => ?_⟩
  obtain ⟨k0, k1, k2, k3, k4⟩ := h6 j hj
  exact ⟨(hb.cell (p := ⟨g, o + j * 5, none⟩) h5).trans k0, (hb.cell (p := ⟨g, o + j * 5 + 1, none⟩) h5).trans k1, (hb.cell (p := ⟨g, o + j * 5 + 2, none⟩) h5).trans k2, (hb.cell (p := ⟨g, o + j * 5 + 3, none⟩) h5).trans k3, (hb.cell (p := ⟨g, o + j * 5 + 4, none⟩) h5).trans k4⟩
theorem encI_at : ∀ (l : List IV) (j : Nat) (hj : j < l.length), (encI l)[j * 5]? = some (.int .i64 l[j].1.level) ∧ (encI l)[j * 5 + 1]? = some (.int .i64 l[j].1.kind) ∧ (encI l)[j * 5 + 2]? = some (.string l[j].1.name) ∧ (encI l)[j * 5 + 3]? = some (.string l[j].1.text) ∧ (encI l)[j * 5 + 4]? = some l[j].2
  | a :: l, 0, _ => by simp [encI, encI1]
  | a :: l, j + 1, hj => by
    have := encI_at l j (by simpa using hj)
    have e1 : (j + 1) * 5 = j * 5 + 1 + 1 + 1 + 1 + 1 := by omega
    simp only [encI, List.flatMap_cons, encI1, List.cons_append, List.nil_append, e1] at *
    simpa using this
theorem attrs_in {base : Nat} {v : Value} {l : List L.Attr} {w : World} (h : w.ownsRow base 67 2 v l.length (encL l)) : AttrsIn v l w := by
  have h0 := h
  rcases h.2 with ⟨rfl, h1⟩ | ⟨g, cap, cur, rfl, hb, hg, h2, h3, _⟩
  · exact ⟨none, 0, by rw [h1], by omega, fun hl => absurd (List.length_eq_zero_iff.1 h1) hl⟩
  · refine ⟨_, _, rfl, by unfold maxLen at h3; omega, fun _ => ⟨g, 0, rfl, lt_of_block hg, fun j hj => ?_⟩⟩
    obtain ⟨e0, e1⟩ := encL_at l j hj
    have c := fun q hq => World.ownsRow.cellAt h0 q hq
    simp only [Nat.zero_add]
    exact ⟨by rw [c _ (by omega)]; exact e0, by rw [c _ (by omega)]; exact e1⟩
theorem items_in {base : Nat} {V : Value} {l : List IV} {w : World} (h : ItmRow base V l w) : ItemsIn V l w := by
  refine ⟨?_, fun x hx => attrs_in (h.2 x hx)⟩
  have h0 := h.1
  rcases h.1.2 with ⟨rfl, h1⟩ | ⟨g, cap, cur, rfl, hb, hg, h2, h3, _⟩
  · exact ⟨none, 0, by rw [h1], by omega, fun hl => absurd (List.length_eq_zero_iff.1 h1) hl⟩
  · refine ⟨_, _, rfl, by unfold maxLen at h3; omega, fun _ => ⟨g, 0, rfl, lt_of_block hg, fun j hj => ?_⟩⟩
    obtain ⟨e0, e1, e2, e3, e4⟩ := encI_at l j hj
    have c := fun q hq => World.ownsRow.cellAt h0 q hq
    simp only [Nat.zero_add]
    exact ⟨by rw [c _ (by omega)]; exact e0, by rw [c _ (by omega)]; exact e1, by rw [c _ (by omega)]; exact e2, by rw [c _ (by omega)]; exact e3, by rw [c _ (by omega)]; exact e4⟩
theorem below_drewN {B : Nat} {a w : World} (h : Below B a w) (m : Nat) : Below B a (w.drewN m) := ⟨h.os, h.tape, h.output, h.size, h.block⟩

theorem aliveP_one : P.parseP ⟨#[60, 97, 62, 120, 60, 98, 47, 62, 60, 47, 97, 62]⟩ = .ok [⟨0, 1, ⟨#[97]⟩, ⟨#[]⟩, []⟩, ⟨1, 2, ⟨#[]⟩, ⟨#[120]⟩, []⟩, ⟨1, 1, ⟨#[98]⟩, ⟨#[]⟩, []⟩] := by kernel_rfl
theorem aliveP_two : P.parseP ⟨#[60, 97, 62, 60, 47, 98, 62]⟩ = .error (3, 41) := by kernel_rfl
set_option maxRecDepth 100000 in
set_option maxHeartbeats 4000000 in
theorem aliveP_any (w : World) (ht : Tab w) : Calls Tryz.prog 5 #[] w fun e w' => e = .returned (.bool true) ∧ Below w.heap.size w w' := by
  have HT := hid ht
  clear ht
  go_enter Tryz.func5, Tryz.ntmps5
  go_wp2_with fail
  refine Calls.mono (parse_any _ w HT.out (by decide) _ (hid aliveP_one)) ?_
  rintro e w1 ⟨hb1, ⟨q, e0, h1, _⟩ | ⟨l, V, h1, rfl, h3⟩⟩
  · cases h1
  · have h4 := items_in h3
    obtain ⟨⟨t1, v1⟩, l1, rfl⟩ : ∃ x l1, l = x :: l1 := by cases l with | nil => cases h1 | cons x l1 => exact ⟨x, l1, rfl⟩
    obtain ⟨⟨t2, v2⟩, l2, rfl⟩ : ∃ x l2, l1 = x :: l2 := by cases l1 with | nil => cases h1 | cons x l2 => exact ⟨x, l2, rfl⟩
    obtain ⟨⟨t3, v3⟩, l3, rfl⟩ : ∃ x l3, l2 = x :: l3 := by cases l2 with | nil => cases h1 | cons x l3 => exact ⟨x, l3, rfl⟩
    obtain rfl : l3 = [] := by cases l3 with | nil => rfl | cons x l4 => cases h1
    simp only [List.map_cons, List.map_nil, Except.ok.injEq, List.cons.injEq, and_true] at h1
    obtain ⟨rfl, rfl, rfl⟩ := h1
    obtain ⟨ao, cap, rfl, _, hc⟩ := h4.1
    obtain ⟨g, o, rfl, hg, hc⟩ := hc (by simp)
    have k1 := hc 1 (by simp)
    have k2 := hc 2 (by simp)
    simp only [List.getElem_cons_zero, List.getElem_cons_succ, List.length_cons, List.length_nil, Nat.zero_add] at k1 k2 ⊢
    have HT1 := hid (HT.out.below hb1)
    have HB1 := hid hb1
    clear hb1 h3 h4 hc
    go_wp2_with fail
    refine Calls.mono (parse_any _ w1 HT1.out (by decide) _ (hid aliveP_two)) ?_
    rintro e w2 ⟨hb2, ⟨q, e0, h1, _, rfl⟩ | ⟨l, V, h1, _⟩⟩
    · simp only [Except.error.injEq, Prod.mk.injEq] at h1
      obtain ⟨rfl, rfl⟩ := h1
      have m0 : w2.cell? ⟨g, o + 1 * 5 + 3, none⟩ = some (.string ⟨#[120]⟩) := by rw [hb2.cell (p := ⟨g, o + 1 * 5 + 3, none⟩) hg]; exact k1.2.2.2.1
      have m2 : w2.cell? ⟨g, o + 2 * 5, none⟩ = some (.int .i64 1) := by rw [hb2.cell (p := ⟨g, o + 2 * 5, none⟩) hg]; exact k2.1
      have m4 : w2.cell? ⟨g, o + 2 * 5 + 2, none⟩ = some (.string ⟨#[98]⟩) := by rw [hb2.cell (p := ⟨g, o + 2 * 5 + 2, none⟩) hg]; exact k2.2.2.1
      have HB2 := hid (HB1.out.trans (hb2.mono HB1.out.size))
      clear hb2 k1 k2
      go_wp2
      go_ret
      exact ⟨rfl, HB2.out⟩
    · cases h1

end Go.Proofs.YtafjffnijonglaaGreatDoor
namespace Go.Proofs.YtafjffnijonglaaGreatDoor
open Go.RowKit Go.Shelf
theorem more_drewS {w w' : World} (h : ∃ m, w' = w.drewN m) (n : Nat) : ∃ m, w'.drewN n = w.drewN m := by
  obtain ⟨m, hm⟩ := h
  exact ⟨m + n, by rw [hm, World.drewN_drewN]⟩
set_option maxRecDepth 100000 in
set_option maxHeartbeats 1000000 in
theorem sameA_quiet (v v' : Value) (l : List L.Attr) (w : World) (h1 : AttrsIn v l w) (h2 : AttrsIn v' l w) :
    Calls Tryz.prog 16 #[v, v'] w fun e w' => e = .returned (.bool true) ∧ ∃ m, w' = w.drewN m := by
  obtain ⟨ao, cp, rfl, hl, k1⟩ := h1
  obtain ⟨ao', cp', rfl, _, k2⟩ := h2
  have H1 := hid k1
  have H2 := hid k2
  clear k1 k2
  go_enter Tryz.func16, Tryz.ntmps16
  go_wp2
  go_loopw [5] (fun v5 W => ∃ (k : Nat), v5 = .int .i64 (k : Int) ∧ k ≤ l.length ∧ Hid (∃ m, W = w.drewN m)) (fun v5 _ => l.length - (intOf v5).toNat)
  case atStart => exact ⟨0, rfl, by omega, hid ⟨0, rfl⟩⟩
  case round =>
    obtain ⟨k, rfl, hk, HM⟩ := hrel
    by_cases h : k < l.length
    · obtain ⟨g, o, rfl, _, c⟩ := H1.out (by rintro rfl; simp at h)
      obtain ⟨g', o', rfl, _, d⟩ := H2.out (by rintro rfl; simp at h)
      have c0 : wr.cell? ⟨g, o + k * 2, none⟩ = some (.string l[k].1) := by obtain ⟨m, hm⟩ := HM.out; rw [hm]; exact (c k h).1
      have c1 : wr.cell? ⟨g, o + k * 2 + 1, none⟩ = some (.string l[k].2) := by obtain ⟨m, hm⟩ := HM.out; rw [hm]; exact (c k h).2
      have d0 : wr.cell? ⟨g', o' + k * 2, none⟩ = some (.string l[k].1) := by obtain ⟨m, hm⟩ := HM.out; rw [hm]; exact (d k h).1
      have d1 : wr.cell? ⟨g', o' + k * 2 + 1, none⟩ = some (.string l[k].2) := by obtain ⟨m, hm⟩ := HM.out; rw [hm]; exact (d k h).2
      have h' : (k : Int) < (l.length : Int) := by omega
      clear c d
      generalize l[k].1 = x at *
      generalize l[k].2 = y at *
      go_wp2_with fail
      go_quiet (fail)
      go_wp2
      go_roundw
      case rel => exact ⟨k + 1, by go_num, by omega, hid (more_drewS HM.out _)⟩
      case measure => (simp [intOf]; try omega)
    · have h' : ¬ (k : Int) < (l.length : Int) := by omega
      go_wp2
      go_ret
      exact ⟨rfl, HM.out⟩
set_option maxRecDepth 100000 in
set_option maxHeartbeats 4000000 in
theorem sameI_any (V V' : Value) (l l' : List IV) (w : World) (I : Hid (ItemsIn V l w)) (I' : Hid (ItemsIn V' l' w)) (he : l.map (·.1) = l'.map (·.1)) :
    Calls Tryz.prog 8 #[V, V'] w fun e w' => e = .returned (.bool true) ∧ Below w.heap.size w w' := by
  have hlen : l'.length = l.length := by have := congrArg List.length he; simpa using this.symm
  have HE : Hid (∀ k (h : k < l.length) (h' : k < l'.length), l'[k].1 = l[k].1) := hid (fun k h h' => by
    have := congrArg (fun x : List P.Itm => x[k]?) he
    simpa [List.getElem?_eq_getElem, h, h'] using this.symm)
  obtain ⟨ao, cp, rfl, hl, k1⟩ := I.out.1
  obtain ⟨ao', cp', rfl, _, k2⟩ := I'.out.1
  have H1 := hid k1
  have H2 := hid k2
  have HL := hid hlen
  rw [hlen]
  clear k1 k2 he hlen
  go_enter Tryz.func8, Tryz.ntmps8
  go_wp2
  go_loopw [5] (fun v5 W => ∃ (k : Nat), v5 = .int .i64 (k : Int) ∧ k ≤ l.length ∧ Hid (Below w.heap.size w W)) (fun v5 _ => l.length - (intOf v5).toNat)
  case atStart => exact ⟨0, rfl, by omega, hid (Below.refl _ _)⟩
  case round =>
    obtain ⟨k, rfl, hk, HB⟩ := hrel
    by_cases h : k < l.length
    · have h2 : k < l'.length := by rw [HL.out]; exact h
      have hne : l ≠ [] := by rintro rfl; simp at h
      have hne' : l' ≠ [] := by rintro rfl; simp at h2
      obtain ⟨g, o, rfl, hg, c⟩ := H1.out hne
      obtain ⟨g', o', rfl, hg', d⟩ := H2.out hne'
      obtain ⟨x0, x1, x2, x3, x4⟩ := c k h
      obtain ⟨y0, y1, y2, y3, y4⟩ := d k h2
      have e1 := HE.out k h h2
      rw [e1] at y0 y1 y2 y3
      have a1 := I.out.2 _ (List.getElem_mem h)
      have a2 := I'.out.2 _ (List.getElem_mem h2)
      rw [e1] at a2
      obtain ⟨aa, ca, ea, -, -⟩ := a1
      obtain ⟨ab, cb, eb, -, -⟩ := a2
      have A1 : Hid (∀ m, AttrsIn (.slice aa l[k].1.attrs.length ca) l[k].1.attrs (wr.drewN m)) := hid (fun m => by
        have := I.out.2 _ (List.getElem_mem h); rw [ea] at this; exact (this.below HB.out).below (below_drewN (Below.refl _ _) m))
      have A2 : Hid (∀ m, AttrsIn (.slice ab l[k].1.attrs.length cb) l[k].1.attrs (wr.drewN m)) := hid (fun m => by
        have := I'.out.2 _ (List.getElem_mem h2); rw [eb, e1] at this; exact (this.below HB.out).below (below_drewN (Below.refl _ _) m))
      rw [ea] at x4
      rw [eb] at y4
      have c0 : wr.cell? ⟨g, o + k * 5, none⟩ = some (.int .i64 l[k].1.level) := (HB.out.cell (p := ⟨g, o + k * 5, none⟩) hg).trans x0
      have c1 : wr.cell? ⟨g, o + k * 5 + 1, none⟩ = some (.int .i64 l[k].1.kind) := (HB.out.cell (p := ⟨g, o + k * 5 + 1, none⟩) hg).trans x1
      have c2 : wr.cell? ⟨g, o + k * 5 + 2, none⟩ = some (.string l[k].1.name) := (HB.out.cell (p := ⟨g, o + k * 5 + 2, none⟩) hg).trans x2
      have c3 : wr.cell? ⟨g, o + k * 5 + 3, none⟩ = some (.string l[k].1.text) := (HB.out.cell (p := ⟨g, o + k * 5 + 3, none⟩) hg).trans x3
      have c4 : wr.cell? ⟨g, o + k * 5 + 4, none⟩ = some (.slice aa l[k].1.attrs.length ca) := (HB.out.cell (p := ⟨g, o + k * 5 + 4, none⟩) hg).trans x4
      have d0 : wr.cell? ⟨g', o' + k * 5, none⟩ = some (.int .i64 l[k].1.level) := (HB.out.cell (p := ⟨g', o' + k * 5, none⟩) hg').trans y0
      have d1 : wr.cell? ⟨g', o' + k * 5 + 1, none⟩ = some (.int .i64 l[k].1.kind) := (HB.out.cell (p := ⟨g', o' + k * 5 + 1, none⟩) hg').trans y1
      have d2 : wr.cell? ⟨g', o' + k * 5 + 2, none⟩ = some (.string l[k].1.name) := (HB.out.cell (p := ⟨g', o' + k * 5 + 2, none⟩) hg').trans y2
      have d3 : wr.cell? ⟨g', o' + k * 5 + 3, none⟩ = some (.string l[k].1.text) := (HB.out.cell (p := ⟨g', o' + k * 5 + 3, none⟩) hg').trans y3
      have d4 : wr.cell? ⟨g', o' + k * 5 + 4, none⟩ = some (.slice ab l[k].1.attrs.length cb) := (HB.out.cell (p := ⟨g', o' + k * 5 + 4, none⟩) hg').trans y4
      have h' : (k : Int) < (l.length : Int) := by omega
      clear c d x0 x1 x2 x3 x4 y0 y1 y2 y3 y4 e1 ea eb hg hg' hne hne' I I' H1 H2
      generalize l[k].1.attrs = ats at *
      generalize l[k].1.level = lv at *
      generalize l[k].1.kind = kd at *
      generalize l[k].1.name = nm at *
      generalize l[k].1.text = tx at *
      generalize ats.length = na at *
      go_wp2_with fail
      go_quiet (first | (go_at_call 16; refine Calls.quiet_of (sameA_quiet _ _ ats _ (A1.out _) (A2.out _))))
      go_wp2
      go_roundw
      case rel => exact ⟨k + 1, by go_num, by omega, hid (below_drewN HB.out _)⟩
      case measure => (simp [intOf]; try omega)
    · have h' : ¬ (k : Int) < (l.length : Int) := by omega
      go_wp2
      go_ret
      exact ⟨rfl, HB.out⟩
end Go.Proofs.YtafjffnijonglaaGreatDoor
namespace Go.Proofs.YtafjffnijonglaaGreatDoor
open Go.RowKit Go.Shelf
theorem below_drewN' {B : Nat} {a w : World} (h : Below B a w) (m : Nat) : Below B a (w.drewN m) := ⟨h.os, h.tape, h.output, h.size, h.block⟩
/-- Items and names lie in memory that goes back to W0. -/
structure RS (W0 : World) (VI VN : Value) (its : List IV) (op : List ByteArray) (w : World) : Prop where
  bel : Below W0.heap.size W0 w
  itm : ItmRow W0.heap.size VI its w
  nam : NamesAt W0.heap.size VN op w
section
variable {W0 : World} {VI VN : Value} {its : List IV} {op : List ByteArray} {w : World}
theorem RS.below (h : RS W0 VI VN its op w) {w' : World} (hb : Below w.heap.size w w') : RS W0 VI VN its op w' := ⟨h.bel.trans (hb.mono h.bel.size), h.itm.below hb, h.nam.below hb⟩
theorem RS.new (h : RS W0 VI VN its op w) (o : Obj) : RS W0 VI VN its op (w.alloc o) := h.below ((Below.refl _ _).alloc (Nat.le_refl _) o)
theorem RS.form (h : RS W0 VI VN its op w) : ∃ ao cap, VI = .slice ao its.length cap := by
  rcases h.itm.1.2 with ⟨h, h'⟩ | ⟨_, _, _, h, _⟩
  · exact ⟨none, 0, by rw [h, h']⟩
  · exact ⟨_, _, h⟩
theorem RS.formN (h : RS W0 VI VN its op w) : ∃ ao cap, VN = .slice ao op.length cap := by
  obtain ⟨ao, cap, e, _⟩ := h.nam.form
  exact ⟨ao, cap, e⟩
theorem RS.own (h : RS W0 VI VN its op w) (c : Nat) (cs : Array Value) (e : TypeId) (fz : Nat × Nat) (hc : w.heap[c]? = some (.cells cs e fz)) (ne : e ≠ 34) : some c ≠ VI.ownBlock := by
  intro q
  rcases h.itm.1.2 with ⟨rfl, _⟩ | ⟨g, cap, cur, rfl, _, hg', _⟩
  · cases q
  · have : c = g := by simpa [Value.ownBlock] using q
    subst this
    rw [hc] at hg'
    simp only [Option.some.injEq, Obj.cells.injEq] at hg'
    exact ne hg'.2.1
/-- What an append to the items leaves as it was. -/
theorem RS.grow (h : RS W0 VI VN its op w) {w' : World} (hg : w.grownBy w' VI.ownBlock) : NamesAt W0.heap.size VN op w' ∧ Below W0.heap.size W0 w' := by
  refine ⟨?_, h.bel.grown hg h.bel.size fun k hk => (World.ownsRow.lt h.itm.1 k hk).1⟩
  rcases h.nam with h' | ⟨g, cap, cur, h1, h2, h3, h4⟩
  · exact Or.inl h'
  · exact Or.inr ⟨g, cap, cur, h1, h2, by rw [hg.block g (lt_of_block h3) (h.own g _ _ _ h3 (by decide))]; exact h3, h4⟩
theorem names_row {base : Nat} {v : Value} {l : List ByteArray} {w : World} (h : w.ownsRow base 9 1 v l.length (l.map Value.string)) (hl : l ≠ []) : NamesAt base v l w := by
  rcases h.2 with ⟨_, h0⟩ | ⟨g, cap, cur, rfl, k1, k2, k3, k4, k5, k6⟩
  · exact absurd (List.length_eq_zero_iff.1 h0) hl
  · refine Or.inr ⟨g, cap, cur, rfl, k1, k2, k3, k4, fun j hj => ?_⟩
    have : cur.toList[j]? = (l.map Value.string)[j]? := by rw [← k6, List.getElem?_take_of_lt (by omega)]
    rw [Array.getElem?_toList] at this
    rw [this, List.getElem?_map, List.getElem?_eq_getElem hj, Option.map_some]
theorem names_base {base base' : Nat} {v : Value} {l : List ByteArray} {w : World} (h : NamesAt base v l w) (hb : base' ≤ base) : NamesAt base' v l w := by
  rcases h with h | ⟨g, cap, cur, h1, h2, h3⟩
  · exact Or.inl h
  · exact Or.inr ⟨g, cap, cur, h1, by omega, h3⟩
theorem names_cells {base g n cap : Nat} {l : List ByteArray} {w : World} (h : NamesAt base (.slice (some ⟨g, 0, none⟩) n cap) l w) (o : Obj) : ∀ j u, (l.map Value.string)[j]? = some u → (w.alloc o).cell? ((⟨g, 0, none⟩ : Addr).add j) = some u := by
  intro j u hu
  obtain ⟨ao, cp, e, _, _, h3⟩ := h.form
  simp only [Value.slice.injEq] at e
  obtain ⟨g', e1, _, hg, hc⟩ := h3 _ e.1.symm
  simp only [Addr.mk.injEq, and_true] at e1
  subst e1
  have hj : j < l.length := by
    by_cases hj : j < l.length
    · exact hj
    · rw [List.getElem?_eq_none (by simpa using hj)] at hu; cases hu
  rw [List.getElem?_eq_getElem (by simpa using hj)] at hu
  simp only [List.getElem_map, Option.some.injEq] at hu
  subst hu
  rw [Addr.add_lit, Nat.zero_add, World.cell?_alloc_past _ _ _ hg]
  exact hc j hj
theorem rs_drew (h : RS W0 VI VN its op w) (m : Nat) : RS W0 VI VN its op (w.drewN m) := ⟨below_drewN' h.bel m, h.itm, h.nam⟩
def RTakePost (W0 : World) (VI VN : Value) (res : Except Int (List P.Itm × List ByteArray)) (e : Ending) (w' : World) : Prop :=
  (∃ e0, res = .error e0 ∧ e0 ≠ 0 ∧ e = .returned (.tuple #[VI, VN, .int .i64 e0]) ∧ Below W0.heap.size W0 w') ∨
  (∃ VI' VN' its' op', res = .ok (its'.map (·.1), op') ∧ e = .returned (.tuple #[VI', VN', .int .i64 0]) ∧ RS W0 VI' VN' its' op' w')
set_option maxRecDepth 100000 in
set_option maxHeartbeats 4000000 in
theorem rtake_end (R : Hid (RS W0 VI VN its op w)) (t : L.Tok) (v : Value) (hv : ∃ ao nn cp, v = .slice ao nn cp) (hk : t.kind = 2) (ho : op.length ≤ 1048576) :
    Calls Tryz.prog 15 #[VI, VN, tokV t v] w (RTakePost W0 VI VN (P.takeP (its.map (·.1)) op t)) := by
  obtain ⟨ao, nn, cp, rfl⟩ := hv
  obtain ⟨kd, ps, nm, tx, ats⟩ := t
  obtain rfl : kd = 2 := hk
  obtain ⟨aoI, capI, rfl⟩ := R.out.form
  have R1 := hid (R.out.new (.cells #[.int .i64 2, .int .i64 (ps : Int), .string nm, .string tx, .slice ao nn cp] 45))
  have HN := hid R.out.nam
  obtain ⟨aoN, capN, rfl, h1, h2, h3⟩ := R.out.nam.form
  have hB : Hid (∀ g, g < w.heap.size → g < (w.alloc (.cells #[.int .i64 2, .int .i64 (ps : Int), .string nm, .string tx, .slice ao nn cp] 45)).heap.size) := hid (fun g h => by simp; omega)
  have k0 : (w.alloc (.cells #[.int .i64 2, .int .i64 (ps : Int), .string nm, .string tx, .slice ao nn cp] 45)).cell? ⟨w.heap.size, 2, none⟩ = some (.string nm) := by rw [cell_of_row _ w.heap.size 2 _ _ _ (heap_alloc_new w _)]; rfl
  unfold tokV
  go_enter Tryz.func15, Tryz.ntmps15
  rcases List.eq_nil_or_concat op with rfl | ⟨l, a, rfl⟩
  · have HR : Hid (P.takeP (its.map (·.1)) [] ⟨2, ps, nm, tx, ats⟩ = .error 41) := hid (by simp [P.takeP, P.closesB])
    have B1 := hid R1.out.bel
    clear h2 h3 R1 HN R
    simp only [List.length_nil] at *
    go_wp2_with fail
    go_quiet (fail)
    go_wp2
    go_ret3
    exact Or.inl ⟨41, HR.out, by decide, rfl, below_drewN' B1.out _⟩
  · simp only [List.concat_eq_append] at *
    obtain ⟨g, rfl⟩ : ∃ g, aoN = some ⟨g, 0, none⟩ := by
      cases aoN with
      | none => have := (h2 rfl).1; simp at this
      | some x => obtain ⟨g, rfl, _⟩ := h3 x rfl; exact ⟨g, rfl⟩
    obtain ⟨g', e1, _, hg, hc⟩ := h3 _ rfl
    simp only [Addr.mk.injEq, and_true] at e1
    subst e1
    have c0 : (w.alloc (.cells #[.int .i64 2, .int .i64 (ps : Int), .string nm, .string tx, .slice ao nn cp] 45)).cell? ⟨g, l.length, none⟩ = some (.string a) := by
      rw [World.cell?_alloc_past _ _ _ hg]
      have := hc l.length (by simp)
      simpa using this
    have NN : Hid (NamesAt W0.heap.size (.slice (some ⟨g, 0, none⟩) l.length capN) l (w.alloc (.cells #[.int .i64 2, .int .i64 (ps : Int), .string nm, .string tx, .slice ao nn cp] 45))) := hid (by
      rcases R1.out.nam with ⟨h, _⟩ | ⟨g2, cap, cur, e2, h5, h6, h7, h8, h9⟩
      · cases h
      · simp only [Value.slice.injEq, Option.some.injEq, Addr.mk.injEq, and_true] at e2
        obtain ⟨rfl, _, rfl⟩ := e2
        refine Or.inr ⟨_, _, cur, rfl, h5, h6, by simp at h7; omega, h8, fun j hj => ?_⟩
        rw [h9 j (by simp; omega)]
        simp [hj])
    have hcl : P.closesB (l ++ [a]) nm = decide (a = nm) := by simp [P.closesB]
    have RI := hid R1.out.itm
    have RB := hid R1.out.bel
    have HD : Hid ((l ++ [a]).dropLast = l) := hid (by simp)
    clear h2 h3 hc R1 HN R
    simp only [List.length_append, List.length_cons, List.length_nil, Nat.zero_add] at ho h1 ⊢
    have q0 : (((l.length : Int) + 1) == 0) = false := beq_eq_false_iff_ne.2 (by omega)
    have q1 : (((l.length + 1 : Nat) : Int) == 0) = false := beq_eq_false_iff_ne.2 (by omega)
    have h9 : l.length ≤ capN := by omega
    by_cases ha : a = nm
    · subst ha
      have HR : Hid (P.takeP (its.map (·.1)) (l ++ [a]) ⟨2, ps, a, tx, ats⟩ = .ok (its.map (·.1), l)) := hid (by simp [P.takeP, hcl])
      clear hcl
      generalize hq : l.length = q at *
      have HQ := hid hq
      clear hq
      go_wp2_with fail
      go_quiet (fail)
      go_wp2_with fail
      go_quiet (fail)
      go_wp2
      go_ret3
      exact Or.inr ⟨.slice aoI its.length capI, .slice (some ⟨g, 0, none⟩) q capN, its, l, HR.out, rfl, rs_drew (rs_drew ⟨RB.out, RI.out, NN.out⟩ _) _⟩
    · have HR : Hid (P.takeP (its.map (·.1)) (l ++ [a]) ⟨2, ps, nm, tx, ats⟩ = .error 41) := hid (by simp [P.takeP, hcl, ha])
      have hs : (a.toList == nm.toList) = false := by rw [str_eq]; simpa using ha
      clear hcl ha NN
      generalize l.length = q at *
      go_wp2_with fail
      go_quiet (fail)
      go_wp2
      go_ret3
      exact Or.inl ⟨41, HR.out, by decide, rfl, below_drewN' RB.out _⟩
end
end Go.Proofs.YtafjffnijonglaaGreatDoor
namespace Go.Proofs.YtafjffnijonglaaGreatDoor
open Go.RowKit Go.Shelf
section
variable {W0 : World} {VI VN : Value} {its : List IV} {op : List ByteArray} {w : World}
set_option maxRecDepth 100000 in
set_option maxHeartbeats 4000000 in
theorem rtake_txt (R : Hid (RS W0 VI VN its op w)) (t : L.Tok) (v : Value) (hv : ∃ ao nn cp, v = .slice ao nn cp) (HA : Hid (w.ownsRow W0.heap.size 67 2 v t.attrs.length (encL t.attrs))) (hk : t.kind = 4) (ho : op.length ≤ 1048576) (hl : its.length ≤ 1048576) :
    Calls Tryz.prog 15 #[VI, VN, tokV t v] w (RTakePost W0 VI VN (P.takeP (its.map (·.1)) op t)) := by
  obtain ⟨i0, hi0, hz0, hz1, hz2⟩ := info_parts infoI
  have I0 := hid hi0
  have I1 := hid hz0
  have I2 := hid hz1
  have I3 := hid hz2
  clear hi0 hz0 hz1 hz2
  obtain ⟨ao, nn, cp, rfl⟩ := hv
  obtain ⟨kd, ps, nm, tx, ats⟩ := t
  obtain rfl : kd = 4 := hk
  obtain ⟨aoI, capI, rfl⟩ := R.out.form
  obtain ⟨aoN, capN, rfl⟩ := R.out.formN
  have R1 := hid (R.out.new (.cells #[.int .i64 4, .int .i64 (ps : Int), .string nm, .string tx, .slice ao nn cp] 45))
  have B1 := hid R1.out.bel
  have hE : P.takeP (its.map (·.1)) op ⟨4, ps, nm, tx, ats⟩ = (if P.addE its.length (P.itemOf op.length ⟨4, ps, nm, tx, ats⟩) ≠ 0 then .error (P.addE its.length (P.itemOf op.length ⟨4, ps, nm, tx, ats⟩)) else .ok ((its ++ [((P.itemOf op.length ⟨4, ps, nm, tx, ats⟩, Value.slice none 0 0) : IV)]).map (fun y => y.1), op)) := by simp [P.takeP]
  have hL : (P.itemOf op.length ⟨4, ps, nm, tx, ats⟩).level = (op.length : Int) := rfl
  have hK : (P.itemOf op.length ⟨4, ps, nm, tx, ats⟩).kind = 2 := rfl
  obtain ⟨res, HRes⟩ : ∃ res, Hid (P.takeP (its.map (·.1)) op ⟨4, ps, nm, tx, ats⟩ = res) := ⟨_, hid rfl⟩
  rw [HRes.out]
  rw [HRes.out] at hE
  unfold tokV
  go_enter Tryz.func15, Tryz.ntmps15
  by_cases hn : op.length = 0
  · have z0 : op = [] := List.length_eq_zero_iff.1 hn
    subst z0
    simp only [List.length_nil] at *
    have HR : Hid (res = .error 40) := hid (by rw [hE]; simp [P.addE, hL, hK])
    clear hE hL hK hn R1 R HA
    go_wp2
    go_ret3
    exact Or.inl ⟨40, HR.out, by decide, rfl, B1.out⟩
  · have n0 : ((op.length : Int) == 0) = false := beq_eq_false_iff_ne.2 (by omega)
    by_cases h40 : 40 ≤ op.length
    · have h40' : (40 : Int) ≤ (op.length : Int) := by omega
      have HR : Hid (res = .error 42) := hid (by rw [hE]; simp [P.addE, hL, hK, hn, h40'])
      clear hE hL hK hn R1 R HA
      go_wp2
      go_ret3
      exact Or.inl ⟨42, HR.out, by decide, rfl, B1.out⟩
    · have h40' : ¬ (40 : Int) ≤ (op.length : Int) := by omega
      by_cases h1000 : 1000 ≤ its.length
      · have h1000' : (1000 : Int) ≤ (its.length : Int) := by omega
        have HR : Hid (res = .error 43) := hid (by rw [hE]; simp [P.addE, hL, hK, hn, h40', h1000])
        clear hE hL hK hn R1 R HA
        go_wp2
        go_ret3
        exact Or.inl ⟨43, HR.out, by decide, rfl, B1.out⟩
      · have h1000' : ¬ (1000 : Int) ≤ (its.length : Int) := by omega
        have HR : Hid (res = .ok ((its ++ [((P.itemOf op.length ⟨4, ps, nm, tx, ats⟩, Value.slice none 0 0) : IV)]).map (fun y => y.1), op)) := hid (by rw [hE]; simp [P.addE, hL, hK, hn, h40', h1000])
        clear hE hL hK hn
        have HW3 : Hid (RS W0 (.slice aoI its.length capI) (.slice aoN op.length capN) its op (((w.alloc (Obj.cells #[.int .i64 4, .int .i64 (ps : Int), .string nm, .string tx, .slice ao nn cp] 45)).alloc (Obj.cells #[.int .i64 (op.length : Int), .int .i64 2, .string ⟨#[]⟩, .string tx, .slice none 0 0] 34)).alloc (Obj.cells #[.int .i64 (op.length : Int), .int .i64 2, .string ⟨#[]⟩, .string tx, .slice none 0 0] 34))) := hid ((R1.out.new _).new _)
        have A3 : Hid ((((w.alloc (Obj.cells #[.int .i64 4, .int .i64 (ps : Int), .string nm, .string tx, .slice ao nn cp] 45)).alloc (Obj.cells #[.int .i64 (op.length : Int), .int .i64 2, .string ⟨#[]⟩, .string tx, .slice none 0 0] 34)).alloc (Obj.cells #[.int .i64 (op.length : Int), .int .i64 2, .string ⟨#[]⟩, .string tx, .slice none 0 0] 34)).ownsRow W0.heap.size 67 2 (.slice none 0 0) ((P.itemOf op.length ⟨4, ps, nm, tx, ats⟩)).attrs.length (encL ((P.itemOf op.length ⟨4, ps, nm, tx, ats⟩)).attrs)) := hid (World.ownsRow_nil _ _ _ _)
        have HC : Hid (∀ q u, [Value.int .i64 (op.length : Int), .int .i64 2, .string ⟨#[]⟩, .string tx, .slice none 0 0][q]? = some u → (((w.alloc (Obj.cells #[.int .i64 4, .int .i64 (ps : Int), .string nm, .string tx, .slice ao nn cp] 45)).alloc (Obj.cells #[.int .i64 (op.length : Int), .int .i64 2, .string ⟨#[]⟩, .string tx, .slice none 0 0] 34)).alloc (Obj.cells #[.int .i64 (op.length : Int), .int .i64 2, .string ⟨#[]⟩, .string tx, .slice none 0 0] 34)).cell? ((⟨w.heap.size + 2, 0, none⟩ : Addr).add q) = some u) := hid (by
          have h := heap_alloc_new ((w.alloc (Obj.cells #[.int .i64 4, .int .i64 (ps : Int), .string nm, .string tx, .slice ao nn cp] 45)).alloc (Obj.cells #[.int .i64 (op.length : Int), .int .i64 2, .string ⟨#[]⟩, .string tx, .slice none 0 0] 34)) (Obj.cells #[.int .i64 (op.length : Int), .int .i64 2, .string ⟨#[]⟩, .string tx, .slice none 0 0] 34)
          rw [show ((w.alloc (Obj.cells #[.int .i64 4, .int .i64 (ps : Int), .string nm, .string tx, .slice ao nn cp] 45)).alloc (Obj.cells #[.int .i64 (op.length : Int), .int .i64 2, .string ⟨#[]⟩, .string tx, .slice none 0 0] 34)).heap.size = w.heap.size + 2 by simp] at h
          exact World.news_of_block (cs := #[.int .i64 (op.length : Int), .int .i64 2, .string ⟨#[]⟩, .string tx, .slice none 0 0]) h)
        have TB : Hid ((((w.alloc (Obj.cells #[.int .i64 4, .int .i64 (ps : Int), .string nm, .string tx, .slice ao nn cp] 45)).alloc (Obj.cells #[.int .i64 (op.length : Int), .int .i64 2, .string ⟨#[]⟩, .string tx, .slice none 0 0] 34)).alloc (Obj.cells #[.int .i64 (op.length : Int), .int .i64 2, .string ⟨#[]⟩, .string tx, .slice none 0 0] 34)).heap[w.heap.size]? = some (.cells #[.int .i64 4, .int .i64 (ps : Int), .string nm, .string tx, .slice ao nn cp] 45 (0, 0))) := hid (by rw [Below.heap_alloc _ _ _ (by simp; omega), Below.heap_alloc _ _ _ (by simp)]; exact heap_alloc_new w _)
        have hm : Hid (its.length + 1 ≤ maxLen ∧ (its.length + 1) * 72 ≤ 140737488355328 ∧ W0.heap.size ≤ (((w.alloc (Obj.cells #[.int .i64 4, .int .i64 (ps : Int), .string nm, .string tx, .slice ao nn cp] 45)).alloc (Obj.cells #[.int .i64 (op.length : Int), .int .i64 2, .string ⟨#[]⟩, .string tx, .slice none 0 0] 34)).alloc (Obj.cells #[.int .i64 (op.length : Int), .int .i64 2, .string ⟨#[]⟩, .string tx, .slice none 0 0] 34)).heap.size) := hid ⟨by unfold maxLen; omega, by omega, HW3.out.bel.size⟩
        have o5 : ∀ u ∈ [Value.int .i64 (op.length : Int), .int .i64 2, .string ⟨#[]⟩, .string tx, .slice none 0 0], u.oneCell' = true := one_fiveI ((P.itemOf op.length ⟨4, ps, nm, tx, ats⟩), .slice none 0 0) rfl
        have HO5 := hid o5
        clear o5 R1 R HA B1
        go_wp2_with (
          at_builtin
          refine wpList_append_lies _ rfl (.tmp 72) (.tmp 74) 23 rfl W0.heap.size 34 i0 (.agg #[.int .i64 0, .int .i64 0, .string ⟨#[]⟩, .string ⟨#[]⟩, .slice none 0 0]) 5 72 Tryz.underlying23 I0.out I1.out I2.out I3.out rfl (by decide) _ its.length (encI its) rfl HW3.out.itm.1 ⟨w.heap.size + 2, 0, none⟩ 1 1 [.int .i64 (op.length : Int), .int .i64 2, .string ⟨#[]⟩, .string tx, .slice none 0 0] rfl rfl HC.out HO5.out (by decide) hm.out.1 hm.out.2.1 hm.out.2.2 (w.heap.size + 3) (by simp) ?_
          intro g' cap' w4 hown hgrow _ _
          have G4 := hid (HW3.out.grow hgrow)
          have T4 : Hid (ItmRow W0.heap.size (.slice (some ⟨g', 0, none⟩) (its.length + 1) cap') (its ++ [((P.itemOf op.length ⟨4, ps, nm, tx, ats⟩), .slice none 0 0)]) w4) := hid (by
            refine ⟨by rw [encI_snoc, List.length_append]; exact hown, fun y hy => ?_⟩
            rcases List.mem_append.1 hy with hy | hy
            · exact World.ownsRow.kept (HW3.out.itm.2 y hy) hgrow (rows_two (HW3.out.itm.2 y hy) HW3.out.itm.1 (by decide))
            · simp only [List.mem_singleton] at hy
              subst hy
              exact World.ownsRow.kept A3.out hgrow (rows_two A3.out HW3.out.itm.1 (by decide)))
          have TB4 : Hid (w4.heap[w.heap.size]? = some (.cells #[.int .i64 4, .int .i64 (ps : Int), .string nm, .string tx, .slice ao nn cp] 45 (0, 0))) := hid (by rw [hgrow.block w.heap.size (lt_of_block TB.out) (HW3.out.own _ _ _ _ TB.out (by decide))]; exact TB.out)
          have u0 : w4.cell? ⟨w.heap.size, 0, none⟩ = some (.int .i64 4) := by rw [cell_of_row _ w.heap.size 0 _ _ _ TB4.out]; rfl
          have u2 : w4.cell? ⟨w.heap.size, 2, none⟩ = some (.string nm) := by rw [cell_of_row _ w.heap.size 2 _ _ _ TB4.out]; rfl
          clear hown hgrow HC HW3 A3 TB hm HO5)
        go_ret3
        exact Or.inr ⟨_, _, _, _, HR.out, rfl, ⟨G4.out.2, T4.out, G4.out.1⟩⟩
end
end Go.Proofs.YtafjffnijonglaaGreatDoor
namespace Go.Proofs.YtafjffnijonglaaGreatDoor
open Go.RowKit Go.Shelf
section
variable {W0 : World} {VI VN : Value} {its : List IV} {op : List ByteArray} {w : World}
set_option maxRecDepth 100000 in
set_option maxHeartbeats 4000000 in
theorem rtake_both (R : Hid (RS W0 VI VN its op w)) (t : L.Tok) (v : Value) (hv : ∃ ao nn cp, v = .slice ao nn cp) (HA : Hid (w.ownsRow W0.heap.size 67 2 v t.attrs.length (encL t.attrs))) (hk : t.kind = 3) (ho : op.length ≤ 1048576) (hl : its.length ≤ 1048576) :
    Calls Tryz.prog 15 #[VI, VN, tokV t v] w (RTakePost W0 VI VN (P.takeP (its.map (·.1)) op t)) := by
  obtain ⟨i0, hi0, hz0, hz1, hz2⟩ := info_parts infoI
  have I0 := hid hi0
  have I1 := hid hz0
  have I2 := hid hz1
  have I3 := hid hz2
  clear hi0 hz0 hz1 hz2
  obtain ⟨ao, nn, cp, rfl⟩ := hv
  obtain ⟨kd, ps, nm, tx, ats⟩ := t
  obtain rfl : kd = 3 := hk
  obtain ⟨aoI, capI, rfl⟩ := R.out.form
  obtain ⟨aoN, capN, rfl⟩ := R.out.formN
  have R1 := hid (R.out.new (.cells #[.int .i64 3, .int .i64 (ps : Int), .string nm, .string tx, .slice ao nn cp] 45))
  have B1 := hid R1.out.bel
  have hE : P.takeP (its.map (·.1)) op ⟨3, ps, nm, tx, ats⟩ = (if P.addE its.length (P.itemOf op.length ⟨3, ps, nm, tx, ats⟩) ≠ 0 then .error (P.addE its.length (P.itemOf op.length ⟨3, ps, nm, tx, ats⟩)) else .ok ((its ++ [((P.itemOf op.length ⟨3, ps, nm, tx, ats⟩, Value.slice ao nn cp) : IV)]).map (fun y => y.1), op)) := by simp [P.takeP]
  have hL : (P.itemOf op.length ⟨3, ps, nm, tx, ats⟩).level = (op.length : Int) := rfl
  have hK : (P.itemOf op.length ⟨3, ps, nm, tx, ats⟩).kind = 1 := rfl
  obtain ⟨res, HRes⟩ : ∃ res, Hid (P.takeP (its.map (·.1)) op ⟨3, ps, nm, tx, ats⟩ = res) := ⟨_, hid rfl⟩
  rw [HRes.out]
  rw [HRes.out] at hE
  unfold tokV
  go_enter Tryz.func15, Tryz.ntmps15
  by_cases hn : op.length = 0
  · have z0 : op = [] := List.length_eq_zero_iff.1 hn
    subst z0
    simp only [List.length_nil] at *
    by_cases hm0 : its.length = 0
    · have z1 : its = [] := List.length_eq_zero_iff.1 hm0
      subst z1
      simp only [List.length_nil] at *
      have HR : Hid (res = .ok ((([] : List IV) ++ [((P.itemOf 0 ⟨3, ps, nm, tx, ats⟩, Value.slice ao nn cp) : IV)]).map (fun y => y.1), [])) := hid (by rw [hE]; simp [P.addE, hL, hK])
      clear hE hL hK hn
      have HW3 : Hid (RS W0 (.slice aoI 0 capI) (.slice aoN 0 capN) [] [] (((w.alloc (Obj.cells #[.int .i64 3, .int .i64 (ps : Int), .string nm, .string tx, .slice ao nn cp] 45)).alloc (Obj.cells #[.int .i64 0, .int .i64 1, .string nm, .string ⟨#[]⟩, .slice ao nn cp] 34)).alloc (Obj.cells #[.int .i64 0, .int .i64 1, .string nm, .string ⟨#[]⟩, .slice ao nn cp] 34))) := hid ((R1.out.new _).new _)
      have A3 : Hid ((((w.alloc (Obj.cells #[.int .i64 3, .int .i64 (ps : Int), .string nm, .string tx, .slice ao nn cp] 45)).alloc (Obj.cells #[.int .i64 0, .int .i64 1, .string nm, .string ⟨#[]⟩, .slice ao nn cp] 34)).alloc (Obj.cells #[.int .i64 0, .int .i64 1, .string nm, .string ⟨#[]⟩, .slice ao nn cp] 34)).ownsRow W0.heap.size 67 2 (.slice ao nn cp) ((P.itemOf 0 ⟨3, ps, nm, tx, ats⟩)).attrs.length (encL ((P.itemOf 0 ⟨3, ps, nm, tx, ats⟩)).attrs)) := hid (World.ownsRow.alloc (World.ownsRow.alloc (World.ownsRow.alloc HA.out _) _) _)
      have HC : Hid (∀ q u, [Value.int .i64 0, .int .i64 1, .string nm, .string ⟨#[]⟩, .slice ao nn cp][q]? = some u → (((w.alloc (Obj.cells #[.int .i64 3, .int .i64 (ps : Int), .string nm, .string tx, .slice ao nn cp] 45)).alloc (Obj.cells #[.int .i64 0, .int .i64 1, .string nm, .string ⟨#[]⟩, .slice ao nn cp] 34)).alloc (Obj.cells #[.int .i64 0, .int .i64 1, .string nm, .string ⟨#[]⟩, .slice ao nn cp] 34)).cell? ((⟨w.heap.size + 2, 0, none⟩ : Addr).add q) = some u) := hid (by
        have h := heap_alloc_new ((w.alloc (Obj.cells #[.int .i64 3, .int .i64 (ps : Int), .string nm, .string tx, .slice ao nn cp] 45)).alloc (Obj.cells #[.int .i64 0, .int .i64 1, .string nm, .string ⟨#[]⟩, .slice ao nn cp] 34)) (Obj.cells #[.int .i64 0, .int .i64 1, .string nm, .string ⟨#[]⟩, .slice ao nn cp] 34)
        rw [show ((w.alloc (Obj.cells #[.int .i64 3, .int .i64 (ps : Int), .string nm, .string tx, .slice ao nn cp] 45)).alloc (Obj.cells #[.int .i64 0, .int .i64 1, .string nm, .string ⟨#[]⟩, .slice ao nn cp] 34)).heap.size = w.heap.size + 2 by simp] at h
        exact World.news_of_block (cs := #[.int .i64 0, .int .i64 1, .string nm, .string ⟨#[]⟩, .slice ao nn cp]) h)
      have TB : Hid ((((w.alloc (Obj.cells #[.int .i64 3, .int .i64 (ps : Int), .string nm, .string tx, .slice ao nn cp] 45)).alloc (Obj.cells #[.int .i64 0, .int .i64 1, .string nm, .string ⟨#[]⟩, .slice ao nn cp] 34)).alloc (Obj.cells #[.int .i64 0, .int .i64 1, .string nm, .string ⟨#[]⟩, .slice ao nn cp] 34)).heap[w.heap.size]? = some (.cells #[.int .i64 3, .int .i64 (ps : Int), .string nm, .string tx, .slice ao nn cp] 45 (0, 0))) := hid (by rw [Below.heap_alloc _ _ _ (by simp; omega), Below.heap_alloc _ _ _ (by simp)]; exact heap_alloc_new w _)
      have hm : Hid (0 + 1 ≤ maxLen ∧ (0 + 1) * 72 ≤ 140737488355328 ∧ W0.heap.size ≤ (((w.alloc (Obj.cells #[.int .i64 3, .int .i64 (ps : Int), .string nm, .string tx, .slice ao nn cp] 45)).alloc (Obj.cells #[.int .i64 0, .int .i64 1, .string nm, .string ⟨#[]⟩, .slice ao nn cp] 34)).alloc (Obj.cells #[.int .i64 0, .int .i64 1, .string nm, .string ⟨#[]⟩, .slice ao nn cp] 34)).heap.size) := hid ⟨by unfold maxLen; omega, by omega, HW3.out.bel.size⟩
      have o5 : ∀ u ∈ [Value.int .i64 0, .int .i64 1, .string nm, .string ⟨#[]⟩, .slice ao nn cp], u.oneCell' = true := one_fiveI ((P.itemOf 0 ⟨3, ps, nm, tx, ats⟩), .slice ao nn cp) rfl
      have HO5 := hid o5
      clear o5 R1 R HA B1
      go_wp2_with (
        at_builtin
        refine wpList_append_lies _ rfl (.tmp 72) (.tmp 74) 23 rfl W0.heap.size 34 i0 (.agg #[.int .i64 0, .int .i64 0, .string ⟨#[]⟩, .string ⟨#[]⟩, .slice none 0 0]) 5 72 Tryz.underlying23 I0.out I1.out I2.out I3.out rfl (by decide) _ 0 (encI []) rfl HW3.out.itm.1 ⟨w.heap.size + 2, 0, none⟩ 1 1 [.int .i64 0, .int .i64 1, .string nm, .string ⟨#[]⟩, .slice ao nn cp] rfl rfl HC.out HO5.out (by decide) hm.out.1 hm.out.2.1 hm.out.2.2 (w.heap.size + 3) (by simp) ?_
        intro g' cap' w4 hown hgrow _ _
        have G4 := hid (HW3.out.grow hgrow)
        have T4 : Hid (ItmRow W0.heap.size (.slice (some ⟨g', 0, none⟩) (0 + 1) cap') ([] ++ [((P.itemOf 0 ⟨3, ps, nm, tx, ats⟩), .slice ao nn cp)]) w4) := hid (by
          refine ⟨by rw [encI_snoc, List.length_append]; exact hown, fun y hy => ?_⟩
          rcases List.mem_append.1 hy with hy | hy
          · exact World.ownsRow.kept (HW3.out.itm.2 y hy) hgrow (rows_two (HW3.out.itm.2 y hy) HW3.out.itm.1 (by decide))
          · simp only [List.mem_singleton] at hy
            subst hy
            exact World.ownsRow.kept A3.out hgrow (rows_two A3.out HW3.out.itm.1 (by decide)))
        have TB4 : Hid (w4.heap[w.heap.size]? = some (.cells #[.int .i64 3, .int .i64 (ps : Int), .string nm, .string tx, .slice ao nn cp] 45 (0, 0))) := hid (by rw [hgrow.block w.heap.size (lt_of_block TB.out) (HW3.out.own _ _ _ _ TB.out (by decide))]; exact TB.out)
        have u0 : w4.cell? ⟨w.heap.size, 0, none⟩ = some (.int .i64 3) := by rw [cell_of_row _ w.heap.size 0 _ _ _ TB4.out]; rfl
        have u2 : w4.cell? ⟨w.heap.size, 2, none⟩ = some (.string nm) := by rw [cell_of_row _ w.heap.size 2 _ _ _ TB4.out]; rfl
        clear hown hgrow HC HW3 A3 TB hm HO5)
      go_ret3
      exact Or.inr ⟨_, _, _, _, HR.out, rfl, ⟨G4.out.2, T4.out, G4.out.1⟩⟩
    · have hm0' : (0 : Int) < (its.length : Int) := by omega
      have HR : Hid (res = .error 40) := hid (by rw [hE]; simp [P.addE, hL, hK, hm0])
      clear hE hL hK hn R1 R HA
      go_wp2
      go_ret3
      exact Or.inl ⟨40, HR.out, by decide, rfl, B1.out⟩
  · have n0 : ((op.length : Int) == 0) = false := beq_eq_false_iff_ne.2 (by omega)
    by_cases h40 : 40 ≤ op.length
    · have h40' : (40 : Int) ≤ (op.length : Int) := by omega
      have HR : Hid (res = .error 42) := hid (by rw [hE]; simp [P.addE, hL, hK, hn, h40'])
      clear hE hL hK hn R1 R HA
      go_wp2
      go_ret3
      exact Or.inl ⟨42, HR.out, by decide, rfl, B1.out⟩
    · have h40' : ¬ (40 : Int) ≤ (op.length : Int) := by omega
      by_cases h1000 : 1000 ≤ its.length
      · have h1000' : (1000 : Int) ≤ (its.length : Int) := by omega
        have HR : Hid (res = .error 43) := hid (by rw [hE]; simp [P.addE, hL, hK, hn, h40', h1000])
        clear hE hL hK hn R1 R HA
        go_wp2
        go_ret3
        exact Or.inl ⟨43, HR.out, by decide, rfl, B1.out⟩
      · have h1000' : ¬ (1000 : Int) ≤ (its.length : Int) := by omega
        have HR : Hid (res = .ok ((its ++ [((P.itemOf op.length ⟨3, ps, nm, tx, ats⟩, Value.slice ao nn cp) : IV)]).map (fun y => y.1), op)) := hid (by rw [hE]; simp [P.addE, hL, hK, hn, h40', h1000])
        clear hE hL hK hn
        have HW3 : Hid (RS W0 (.slice aoI its.length capI) (.slice aoN op.length capN) its op (((w.alloc (Obj.cells #[.int .i64 3, .int .i64 (ps : Int), .string nm, .string tx, .slice ao nn cp] 45)).alloc (Obj.cells #[.int .i64 (op.length : Int), .int .i64 1, .string nm, .string ⟨#[]⟩, .slice ao nn cp] 34)).alloc (Obj.cells #[.int .i64 (op.length : Int), .int .i64 1, .string nm, .string ⟨#[]⟩, .slice ao nn cp] 34))) := hid ((R1.out.new _).new _)
        have A3 : Hid ((((w.alloc (Obj.cells #[.int .i64 3, .int .i64 (ps : Int), .string nm, .string tx, .slice ao nn cp] 45)).alloc (Obj.cells #[.int .i64 (op.length : Int), .int .i64 1, .string nm, .string ⟨#[]⟩, .slice ao nn cp] 34)).alloc (Obj.cells #[.int .i64 (op.length : Int), .int .i64 1, .string nm, .string ⟨#[]⟩, .slice ao nn cp] 34)).ownsRow W0.heap.size 67 2 (.slice ao nn cp) ((P.itemOf op.length ⟨3, ps, nm, tx, ats⟩)).attrs.length (encL ((P.itemOf op.length ⟨3, ps, nm, tx, ats⟩)).attrs)) := hid (World.ownsRow.alloc (World.ownsRow.alloc (World.ownsRow.alloc HA.out _) _) _)
        have HC : Hid (∀ q u, [Value.int .i64 (op.length : Int), .int .i64 1, .string nm, .string ⟨#[]⟩, .slice ao nn cp][q]? = some u → (((w.alloc (Obj.cells #[.int .i64 3, .int .i64 (ps : Int), .string nm, .string tx, .slice ao nn cp] 45)).alloc (Obj.cells #[.int .i64 (op.length : Int), .int .i64 1, .string nm, .string ⟨#[]⟩, .slice ao nn cp] 34)).alloc (Obj.cells #[.int .i64 (op.length : Int), .int .i64 1, .string nm, .string ⟨#[]⟩, .slice ao nn cp] 34)).cell? ((⟨w.heap.size + 2, 0, none⟩ : Addr).add q) = some u) := hid (by
          have h := heap_alloc_new ((w.alloc (Obj.cells #[.int .i64 3, .int .i64 (ps : Int), .string nm, .string tx, .slice ao nn cp] 45)).alloc (Obj.cells #[.int .i64 (op.length : Int), .int .i64 1, .string nm, .string ⟨#[]⟩, .slice ao nn cp] 34)) (Obj.cells #[.int .i64 (op.length : Int), .int .i64 1, .string nm, .string ⟨#[]⟩, .slice ao nn cp] 34)
          rw [show ((w.alloc (Obj.cells #[.int .i64 3, .int .i64 (ps : Int), .string nm, .string tx, .slice ao nn cp] 45)).alloc (Obj.cells #[.int .i64 (op.length : Int), .int .i64 1, .string nm, .string ⟨#[]⟩, .slice ao nn cp] 34)).heap.size = w.heap.size + 2 by simp] at h
          exact World.news_of_block (cs := #[.int .i64 (op.length : Int), .int .i64 1, .string nm, .string ⟨#[]⟩, .slice ao nn cp]) h)
        have TB : Hid ((((w.alloc (Obj.cells #[.int .i64 3, .int .i64 (ps : Int), .string nm, .string tx, .slice ao nn cp] 45)).alloc (Obj.cells #[.int .i64 (op.length : Int), .int .i64 1, .string nm, .string ⟨#[]⟩, .slice ao nn cp] 34)).alloc (Obj.cells #[.int .i64 (op.length : Int), .int .i64 1, .string nm, .string ⟨#[]⟩, .slice ao nn cp] 34)).heap[w.heap.size]? = some (.cells #[.int .i64 3, .int .i64 (ps : Int), .string nm, .string tx, .slice ao nn cp] 45 (0, 0))) := hid (by rw [Below.heap_alloc _ _ _ (by simp; omega), Below.heap_alloc _ _ _ (by simp)]; exact heap_alloc_new w _)
        have hm : Hid (its.length + 1 ≤ maxLen ∧ (its.length + 1) * 72 ≤ 140737488355328 ∧ W0.heap.size ≤ (((w.alloc (Obj.cells #[.int .i64 3, .int .i64 (ps : Int), .string nm, .string tx, .slice ao nn cp] 45)).alloc (Obj.cells #[.int .i64 (op.length : Int), .int .i64 1, .string nm, .string ⟨#[]⟩, .slice ao nn cp] 34)).alloc (Obj.cells #[.int .i64 (op.length : Int), .int .i64 1, .string nm, .string ⟨#[]⟩, .slice ao nn cp] 34)).heap.size) := hid ⟨by unfold maxLen; omega, by omega, HW3.out.bel.size⟩
        have o5 : ∀ u ∈ [Value.int .i64 (op.length : Int), .int .i64 1, .string nm, .string ⟨#[]⟩, .slice ao nn cp], u.oneCell' = true := one_fiveI ((P.itemOf op.length ⟨3, ps, nm, tx, ats⟩), .slice ao nn cp) rfl
        have HO5 := hid o5
        clear o5 R1 R HA B1
        go_wp2_with (
          at_builtin
          refine wpList_append_lies _ rfl (.tmp 72) (.tmp 74) 23 rfl W0.heap.size 34 i0 (.agg #[.int .i64 0, .int .i64 0, .string ⟨#[]⟩, .string ⟨#[]⟩, .slice none 0 0]) 5 72 Tryz.underlying23 I0.out I1.out I2.out I3.out rfl (by decide) _ its.length (encI its) rfl HW3.out.itm.1 ⟨w.heap.size + 2, 0, none⟩ 1 1 [.int .i64 (op.length : Int), .int .i64 1, .string nm, .string ⟨#[]⟩, .slice ao nn cp] rfl rfl HC.out HO5.out (by decide) hm.out.1 hm.out.2.1 hm.out.2.2 (w.heap.size + 3) (by simp) ?_
          intro g' cap' w4 hown hgrow _ _
          have G4 := hid (HW3.out.grow hgrow)
          have T4 : Hid (ItmRow W0.heap.size (.slice (some ⟨g', 0, none⟩) (its.length + 1) cap') (its ++ [((P.itemOf op.length ⟨3, ps, nm, tx, ats⟩), .slice ao nn cp)]) w4) := hid (by
            refine ⟨by rw [encI_snoc, List.length_append]; exact hown, fun y hy => ?_⟩
            rcases List.mem_append.1 hy with hy | hy
            · exact World.ownsRow.kept (HW3.out.itm.2 y hy) hgrow (rows_two (HW3.out.itm.2 y hy) HW3.out.itm.1 (by decide))
            · simp only [List.mem_singleton] at hy
              subst hy
              exact World.ownsRow.kept A3.out hgrow (rows_two A3.out HW3.out.itm.1 (by decide)))
          have TB4 : Hid (w4.heap[w.heap.size]? = some (.cells #[.int .i64 3, .int .i64 (ps : Int), .string nm, .string tx, .slice ao nn cp] 45 (0, 0))) := hid (by rw [hgrow.block w.heap.size (lt_of_block TB.out) (HW3.out.own _ _ _ _ TB.out (by decide))]; exact TB.out)
          have u0 : w4.cell? ⟨w.heap.size, 0, none⟩ = some (.int .i64 3) := by rw [cell_of_row _ w.heap.size 0 _ _ _ TB4.out]; rfl
          have u2 : w4.cell? ⟨w.heap.size, 2, none⟩ = some (.string nm) := by rw [cell_of_row _ w.heap.size 2 _ _ _ TB4.out]; rfl
          clear hown hgrow HC HW3 A3 TB hm HO5)
        go_ret3
        exact Or.inr ⟨_, _, _, _, HR.out, rfl, ⟨G4.out.2, T4.out, G4.out.1⟩⟩
end
end Go.Proofs.YtafjffnijonglaaGreatDoor
namespace Go.Proofs.YtafjffnijonglaaGreatDoor
open Go.RowKit Go.Shelf
theorem cut_one (e : TypeId) (t : Nat) : 1 ≤ (Question.appendCap 1 0 e).cut t ∧ (Question.appendCap 1 0 e).cut t ≤ maxLen := by
  show 1 ≤ 1 + t % (2 ^ 63 - 1) ∧ 1 + t % (2 ^ 63 - 1) ≤ maxLen
  have := Nat.mod_lt t (y := 2 ^ 63 - 1) (by decide)
  unfold maxLen
  omega
theorem names_new {base n cap : Nat} {nm : ByteArray} {W : World} {cs : Array Value} (hn : W.heap.size = n) (hb : base ≤ n) (h1 : 1 ≤ cap) (h2 : cap ≤ maxLen) (hc : cs[0]? = some (.string nm)) : NamesAt base (.slice (some ⟨n, 0, none⟩) 1 cap) [nm] (W.alloc (Obj.cells cs 9)).drew := by
  subst hn
  refine Or.inr ⟨W.heap.size, cap, cs, rfl, hb, heap_alloc_new W _, h1, h2, fun j hj => ?_⟩
  have hj0 : j = 0 := by simpa using hj
  subst hj0
  exact hc
section
variable {W0 : World} {VI VN : Value} {its : List IV} {op : List ByteArray} {w : World}
set_option maxRecDepth 100000 in
set_option maxHeartbeats 4000000 in
theorem rtake_beg (R : Hid (RS W0 VI VN its op w)) (t : L.Tok) (v : Value) (hv : ∃ ao nn cp, v = .slice ao nn cp) (HA : Hid (w.ownsRow W0.heap.size 67 2 v t.attrs.length (encL t.attrs))) (hk : t.kind = 1) (ho : op.length ≤ 1048576) (hl : its.length ≤ 1048576) :
    Calls Tryz.prog 15 #[VI, VN, tokV t v] w (RTakePost W0 VI VN (P.takeP (its.map (·.1)) op t)) := by
  obtain ⟨i0, hi0, hz0, hz1, hz2⟩ := info_parts infoI
  have I0 := hid hi0
  have I1 := hid hz0
  have I2 := hid hz1
  have I3 := hid hz2
  clear hi0 hz0 hz1 hz2
  obtain ⟨ao, nn, cp, rfl⟩ := hv
  obtain ⟨kd, ps, nm, tx, ats⟩ := t
  obtain rfl : kd = 1 := hk
  obtain ⟨j0, hj0, hj1, hj2, hj3⟩ := info_parts infoS
  have J0 := hid hj0
  have J1 := hid hj1
  have J2 := hid hj2
  have J3 := hid hj3
  clear hj0 hj1 hj2 hj3
  obtain ⟨aoI, capI, rfl⟩ := R.out.form
  obtain ⟨aoN, capN, rfl⟩ := R.out.formN
  have HF : Hid ((aoN = none ∧ capN = 0 ∧ op.length = 0) ∨ ∃ gN, aoN = some ⟨gN, 0, none⟩) := hid (by
    obtain ⟨hV, ho⟩ | ⟨gN, capM, cur, hV, _⟩ := R.out.nam
    · simp only [Value.slice.injEq] at hV
      exact Or.inl ⟨hV.1, hV.2.2, by rw [ho]; rfl⟩
    · simp only [Value.slice.injEq] at hV
      exact Or.inr ⟨gN, hV.1⟩)
  have R1 := hid (R.out.new (.cells #[.int .i64 1, .int .i64 (ps : Int), .string nm, .string tx, .slice ao nn cp] 45))
  have B1 := hid R1.out.bel
  have hE : P.takeP (its.map (·.1)) op ⟨1, ps, nm, tx, ats⟩ = (if P.addE its.length (P.itemOf op.length ⟨1, ps, nm, tx, ats⟩) ≠ 0 then .error (P.addE its.length (P.itemOf op.length ⟨1, ps, nm, tx, ats⟩)) else .ok ((its ++ [((P.itemOf op.length ⟨1, ps, nm, tx, ats⟩, Value.slice ao nn cp) : IV)]).map (fun y => y.1), op ++ [nm])) := by simp [P.takeP]
  have hL : (P.itemOf op.length ⟨1, ps, nm, tx, ats⟩).level = (op.length : Int) := rfl
  have hK : (P.itemOf op.length ⟨1, ps, nm, tx, ats⟩).kind = 1 := rfl
  obtain ⟨res, HRes⟩ : ∃ res, Hid (P.takeP (its.map (·.1)) op ⟨1, ps, nm, tx, ats⟩ = res) := ⟨_, hid rfl⟩
  rw [HRes.out]
  rw [HRes.out] at hE
  unfold tokV
  go_enter Tryz.func15, Tryz.ntmps15
  by_cases hn : op.length = 0
  · have z0 : op = [] := List.length_eq_zero_iff.1 hn
    subst z0
    simp only [List.length_nil] at *
    by_cases hm0 : its.length = 0
    · have z1 : its = [] := List.length_eq_zero_iff.1 hm0
      subst z1
      simp only [List.length_nil] at *
      have HR : Hid (res = .ok ((([] : List IV) ++ [((P.itemOf 0 ⟨1, ps, nm, tx, ats⟩, Value.slice ao nn cp) : IV)]).map (fun y => y.1), [] ++ [nm])) := hid (by rw [hE]; simp [P.addE, hL, hK])
      clear hE hL hK hn
      rcases HF.out with ⟨rfl, rfl, _⟩ | ⟨gN, rfl⟩
      · clear HF
        have HW3 : Hid (RS W0 (.slice aoI 0 capI) (.slice none 0 0) [] [] (((w.alloc (Obj.cells #[.int .i64 1, .int .i64 (ps : Int), .string nm, .string tx, .slice ao nn cp] 45)).alloc (Obj.cells #[.int .i64 0, .int .i64 1, .string nm, .string ⟨#[]⟩, .slice ao nn cp] 34)).alloc (Obj.cells #[.int .i64 0, .int .i64 1, .string nm, .string ⟨#[]⟩, .slice ao nn cp] 34))) := hid ((R1.out.new _).new _)
        have A3 : Hid ((((w.alloc (Obj.cells #[.int .i64 1, .int .i64 (ps : Int), .string nm, .string tx, .slice ao nn cp] 45)).alloc (Obj.cells #[.int .i64 0, .int .i64 1, .string nm, .string ⟨#[]⟩, .slice ao nn cp] 34)).alloc (Obj.cells #[.int .i64 0, .int .i64 1, .string nm, .string ⟨#[]⟩, .slice ao nn cp] 34)).ownsRow W0.heap.size 67 2 (.slice ao nn cp) ((P.itemOf 0 ⟨1, ps, nm, tx, ats⟩)).attrs.length (encL ((P.itemOf 0 ⟨1, ps, nm, tx, ats⟩)).attrs)) := hid (World.ownsRow.alloc (World.ownsRow.alloc (World.ownsRow.alloc HA.out _) _) _)
        have HC : Hid (∀ q u, [Value.int .i64 0, .int .i64 1, .string nm, .string ⟨#[]⟩, .slice ao nn cp][q]? = some u → (((w.alloc (Obj.cells #[.int .i64 1, .int .i64 (ps : Int), .string nm, .string tx, .slice ao nn cp] 45)).alloc (Obj.cells #[.int .i64 0, .int .i64 1, .string nm, .string ⟨#[]⟩, .slice ao nn cp] 34)).alloc (Obj.cells #[.int .i64 0, .int .i64 1, .string nm, .string ⟨#[]⟩, .slice ao nn cp] 34)).cell? ((⟨w.heap.size + 2, 0, none⟩ : Addr).add q) = some u) := hid (by
          have h := heap_alloc_new ((w.alloc (Obj.cells #[.int .i64 1, .int .i64 (ps : Int), .string nm, .string tx, .slice ao nn cp] 45)).alloc (Obj.cells #[.int .i64 0, .int .i64 1, .string nm, .string ⟨#[]⟩, .slice ao nn cp] 34)) (Obj.cells #[.int .i64 0, .int .i64 1, .string nm, .string ⟨#[]⟩, .slice ao nn cp] 34)
          rw [show ((w.alloc (Obj.cells #[.int .i64 1, .int .i64 (ps : Int), .string nm, .string tx, .slice ao nn cp] 45)).alloc (Obj.cells #[.int .i64 0, .int .i64 1, .string nm, .string ⟨#[]⟩, .slice ao nn cp] 34)).heap.size = w.heap.size + 2 by simp] at h
          exact World.news_of_block (cs := #[.int .i64 0, .int .i64 1, .string nm, .string ⟨#[]⟩, .slice ao nn cp]) h)
        have TB : Hid ((((w.alloc (Obj.cells #[.int .i64 1, .int .i64 (ps : Int), .string nm, .string tx, .slice ao nn cp] 45)).alloc (Obj.cells #[.int .i64 0, .int .i64 1, .string nm, .string ⟨#[]⟩, .slice ao nn cp] 34)).alloc (Obj.cells #[.int .i64 0, .int .i64 1, .string nm, .string ⟨#[]⟩, .slice ao nn cp] 34)).heap[w.heap.size]? = some (.cells #[.int .i64 1, .int .i64 (ps : Int), .string nm, .string tx, .slice ao nn cp] 45 (0, 0))) := hid (by rw [Below.heap_alloc _ _ _ (by simp; omega), Below.heap_alloc _ _ _ (by simp)]; exact heap_alloc_new w _)
        have hm : Hid (0 + 1 ≤ maxLen ∧ (0 + 1) * 72 ≤ 140737488355328 ∧ W0.heap.size ≤ (((w.alloc (Obj.cells #[.int .i64 1, .int .i64 (ps : Int), .string nm, .string tx, .slice ao nn cp] 45)).alloc (Obj.cells #[.int .i64 0, .int .i64 1, .string nm, .string ⟨#[]⟩, .slice ao nn cp] 34)).alloc (Obj.cells #[.int .i64 0, .int .i64 1, .string nm, .string ⟨#[]⟩, .slice ao nn cp] 34)).heap.size) := hid ⟨by unfold maxLen; omega, by omega, HW3.out.bel.size⟩
        have o5 : ∀ u ∈ [Value.int .i64 0, .int .i64 1, .string nm, .string ⟨#[]⟩, .slice ao nn cp], u.oneCell' = true := one_fiveI ((P.itemOf 0 ⟨1, ps, nm, tx, ats⟩), .slice ao nn cp) rfl
        have HO5 := hid o5
        clear o5 R1 R HA B1
        go_wp2_with (
             at_builtin
             refine wpList_append_lies _ rfl (.tmp 72) (.tmp 74) 23 rfl W0.heap.size 34 i0 (.agg #[.int .i64 0, .int .i64 0, .string ⟨#[]⟩, .string ⟨#[]⟩, .slice none 0 0]) 5 72 Tryz.underlying23 I0.out I1.out I2.out I3.out rfl (by decide) _ 0 (encI []) rfl HW3.out.itm.1 ⟨w.heap.size + 2, 0, none⟩ 1 1 [.int .i64 0, .int .i64 1, .string nm, .string ⟨#[]⟩, .slice ao nn cp] rfl rfl HC.out HO5.out (by decide) hm.out.1 hm.out.2.1 hm.out.2.2 (w.heap.size + 3) (by simp) ?_
             intro g' cap' w4 hown hgrow _ _
             have G4 := hid (HW3.out.grow hgrow)
             have T4 : Hid (ItmRow W0.heap.size (.slice (some ⟨g', 0, none⟩) (0 + 1) cap') ([] ++ [((P.itemOf 0 ⟨1, ps, nm, tx, ats⟩), .slice ao nn cp)]) w4) := hid (by
               refine ⟨by rw [encI_snoc, List.length_append]; exact hown, fun y hy => ?_⟩
               rcases List.mem_append.1 hy with hy | hy
               · exact World.ownsRow.kept (HW3.out.itm.2 y hy) hgrow (rows_two (HW3.out.itm.2 y hy) HW3.out.itm.1 (by decide))
               · simp only [List.mem_singleton] at hy
                 subst hy
                 exact World.ownsRow.kept A3.out hgrow (rows_two A3.out HW3.out.itm.1 (by decide)))
             have TB4 : Hid (w4.heap[w.heap.size]? = some (.cells #[.int .i64 1, .int .i64 (ps : Int), .string nm, .string tx, .slice ao nn cp] 45 (0, 0))) := hid (by rw [hgrow.block w.heap.size (lt_of_block TB.out) (HW3.out.own _ _ _ _ TB.out (by decide))]; exact TB.out)
             have u0 : w4.cell? ⟨w.heap.size, 0, none⟩ = some (.int .i64 1) := by rw [cell_of_row _ w.heap.size 0 _ _ _ TB4.out]; rfl
             have u2 : w4.cell? ⟨w.heap.size, 2, none⟩ = some (.string nm) := by rw [cell_of_row _ w.heap.size 2 _ _ _ TB4.out]; rfl
             have v2 : (w4.alloc (Obj.cells #[] 9)).cell? ⟨w.heap.size, 2, none⟩ = some (.string nm) := by rw [World.cell?_alloc_past _ _ _ (lt_of_block TB4.out)]; exact u2
             clear hown hgrow HC HW3 A3 TB hm HO5)
        go_ret3
        have hq := G4.out.2.size
        exact Or.inr ⟨_, _, _, _, HR.out, rfl, ⟨(((G4.out.2.alloc hq _).alloc (by simp; omega) _).alloc (by simp; omega) _).drew, T4.out.below (((two_new w4 _ _).alloc (by simp; omega) _).drew), names_new (W := (w4.alloc (Obj.cells #[] 9)).alloc (Obj.cells #[.string nm] 9)) (cs := #[Value.string nm] ++ _) (by simp) (by omega) (cut_one _ _).1 (cut_one _ _).2 (by rw [Array.getElem?_append_left (by simp)]; rfl)⟩⟩
      · clear HF
        have HW3 : Hid (RS W0 (.slice aoI 0 capI) (.slice (some ⟨gN, 0, none⟩) 0 capN) [] [] (((w.alloc (Obj.cells #[.int .i64 1, .int .i64 (ps : Int), .string nm, .string tx, .slice ao nn cp] 45)).alloc (Obj.cells #[.int .i64 0, .int .i64 1, .string nm, .string ⟨#[]⟩, .slice ao nn cp] 34)).alloc (Obj.cells #[.int .i64 0, .int .i64 1, .string nm, .string ⟨#[]⟩, .slice ao nn cp] 34))) := hid ((R1.out.new _).new _)
        have A3 : Hid ((((w.alloc (Obj.cells #[.int .i64 1, .int .i64 (ps : Int), .string nm, .string tx, .slice ao nn cp] 45)).alloc (Obj.cells #[.int .i64 0, .int .i64 1, .string nm, .string ⟨#[]⟩, .slice ao nn cp] 34)).alloc (Obj.cells #[.int .i64 0, .int .i64 1, .string nm, .string ⟨#[]⟩, .slice ao nn cp] 34)).ownsRow W0.heap.size 67 2 (.slice ao nn cp) ((P.itemOf 0 ⟨1, ps, nm, tx, ats⟩)).attrs.length (encL ((P.itemOf 0 ⟨1, ps, nm, tx, ats⟩)).attrs)) := hid (World.ownsRow.alloc (World.ownsRow.alloc (World.ownsRow.alloc HA.out _) _) _)
        have HC : Hid (∀ q u, [Value.int .i64 0, .int .i64 1, .string nm, .string ⟨#[]⟩, .slice ao nn cp][q]? = some u → (((w.alloc (Obj.cells #[.int .i64 1, .int .i64 (ps : Int), .string nm, .string tx, .slice ao nn cp] 45)).alloc (Obj.cells #[.int .i64 0, .int .i64 1, .string nm, .string ⟨#[]⟩, .slice ao nn cp] 34)).alloc (Obj.cells #[.int .i64 0, .int .i64 1, .string nm, .string ⟨#[]⟩, .slice ao nn cp] 34)).cell? ((⟨w.heap.size + 2, 0, none⟩ : Addr).add q) = some u) := hid (by
          have h := heap_alloc_new ((w.alloc (Obj.cells #[.int .i64 1, .int .i64 (ps : Int), .string nm, .string tx, .slice ao nn cp] 45)).alloc (Obj.cells #[.int .i64 0, .int .i64 1, .string nm, .string ⟨#[]⟩, .slice ao nn cp] 34)) (Obj.cells #[.int .i64 0, .int .i64 1, .string nm, .string ⟨#[]⟩, .slice ao nn cp] 34)
          rw [show ((w.alloc (Obj.cells #[.int .i64 1, .int .i64 (ps : Int), .string nm, .string tx, .slice ao nn cp] 45)).alloc (Obj.cells #[.int .i64 0, .int .i64 1, .string nm, .string ⟨#[]⟩, .slice ao nn cp] 34)).heap.size = w.heap.size + 2 by simp] at h
          exact World.news_of_block (cs := #[.int .i64 0, .int .i64 1, .string nm, .string ⟨#[]⟩, .slice ao nn cp]) h)
        have TB : Hid ((((w.alloc (Obj.cells #[.int .i64 1, .int .i64 (ps : Int), .string nm, .string tx, .slice ao nn cp] 45)).alloc (Obj.cells #[.int .i64 0, .int .i64 1, .string nm, .string ⟨#[]⟩, .slice ao nn cp] 34)).alloc (Obj.cells #[.int .i64 0, .int .i64 1, .string nm, .string ⟨#[]⟩, .slice ao nn cp] 34)).heap[w.heap.size]? = some (.cells #[.int .i64 1, .int .i64 (ps : Int), .string nm, .string tx, .slice ao nn cp] 45 (0, 0))) := hid (by rw [Below.heap_alloc _ _ _ (by simp; omega), Below.heap_alloc _ _ _ (by simp)]; exact heap_alloc_new w _)
        have hm : Hid (0 + 1 ≤ maxLen ∧ (0 + 1) * 72 ≤ 140737488355328 ∧ W0.heap.size ≤ (((w.alloc (Obj.cells #[.int .i64 1, .int .i64 (ps : Int), .string nm, .string tx, .slice ao nn cp] 45)).alloc (Obj.cells #[.int .i64 0, .int .i64 1, .string nm, .string ⟨#[]⟩, .slice ao nn cp] 34)).alloc (Obj.cells #[.int .i64 0, .int .i64 1, .string nm, .string ⟨#[]⟩, .slice ao nn cp] 34)).heap.size) := hid ⟨by unfold maxLen; omega, by omega, HW3.out.bel.size⟩
        have o5 : ∀ u ∈ [Value.int .i64 0, .int .i64 1, .string nm, .string ⟨#[]⟩, .slice ao nn cp], u.oneCell' = true := one_fiveI ((P.itemOf 0 ⟨1, ps, nm, tx, ats⟩), .slice ao nn cp) rfl
        have HO5 := hid o5
        clear o5 R1 R HA B1
        go_wp2_with (
             at_builtin
             refine wpList_append_lies _ rfl (.tmp 72) (.tmp 74) 23 rfl W0.heap.size 34 i0 (.agg #[.int .i64 0, .int .i64 0, .string ⟨#[]⟩, .string ⟨#[]⟩, .slice none 0 0]) 5 72 Tryz.underlying23 I0.out I1.out I2.out I3.out rfl (by decide) _ 0 (encI []) rfl HW3.out.itm.1 ⟨w.heap.size + 2, 0, none⟩ 1 1 [.int .i64 0, .int .i64 1, .string nm, .string ⟨#[]⟩, .slice ao nn cp] rfl rfl HC.out HO5.out (by decide) hm.out.1 hm.out.2.1 hm.out.2.2 (w.heap.size + 3) (by simp) ?_
             intro g' cap' w4 hown hgrow _ _
             have G4 := hid (HW3.out.grow hgrow)
             have T4 : Hid (ItmRow W0.heap.size (.slice (some ⟨g', 0, none⟩) (0 + 1) cap') ([] ++ [((P.itemOf 0 ⟨1, ps, nm, tx, ats⟩), .slice ao nn cp)]) w4) := hid (by
               refine ⟨by rw [encI_snoc, List.length_append]; exact hown, fun y hy => ?_⟩
               rcases List.mem_append.1 hy with hy | hy
               · exact World.ownsRow.kept (HW3.out.itm.2 y hy) hgrow (rows_two (HW3.out.itm.2 y hy) HW3.out.itm.1 (by decide))
               · simp only [List.mem_singleton] at hy
                 subst hy
                 exact World.ownsRow.kept A3.out hgrow (rows_two A3.out HW3.out.itm.1 (by decide)))
             have TB4 : Hid (w4.heap[w.heap.size]? = some (.cells #[.int .i64 1, .int .i64 (ps : Int), .string nm, .string tx, .slice ao nn cp] 45 (0, 0))) := hid (by rw [hgrow.block w.heap.size (lt_of_block TB.out) (HW3.out.own _ _ _ _ TB.out (by decide))]; exact TB.out)
             have u0 : w4.cell? ⟨w.heap.size, 0, none⟩ = some (.int .i64 1) := by rw [cell_of_row _ w.heap.size 0 _ _ _ TB4.out]; rfl
             have u2 : w4.cell? ⟨w.heap.size, 2, none⟩ = some (.string nm) := by rw [cell_of_row _ w.heap.size 2 _ _ _ TB4.out]; rfl
             have v2 : (w4.alloc (Obj.cells #[] 9)).cell? ⟨w.heap.size, 2, none⟩ = some (.string nm) := by rw [World.cell?_alloc_past _ _ _ (lt_of_block TB4.out)]; exact u2
             clear hown hgrow HC HW3 A3 TB hm HO5)
        go_ret3
        have hq := G4.out.2.size
        exact Or.inr ⟨_, _, _, _, HR.out, rfl, ⟨(((G4.out.2.alloc hq _).alloc (by simp; omega) _).alloc (by simp; omega) _).drew, T4.out.below (((two_new w4 _ _).alloc (by simp; omega) _).drew), names_new (W := (w4.alloc (Obj.cells #[] 9)).alloc (Obj.cells #[.string nm] 9)) (cs := #[Value.string nm] ++ _) (by simp) (by omega) (cut_one _ _).1 (cut_one _ _).2 (by rw [Array.getElem?_append_left (by simp)]; rfl)⟩⟩
    · have hm0' : (0 : Int) < (its.length : Int) := by omega
      have HR : Hid (res = .error 40) := hid (by rw [hE]; simp [P.addE, hL, hK, hm0])
      clear hE hL hK hn R1 R HA
      go_wp2
      go_ret3
      exact Or.inl ⟨40, HR.out, by decide, rfl, B1.out⟩
  · have n0 : ((op.length : Int) == 0) = false := beq_eq_false_iff_ne.2 (by omega)
    by_cases h40 : 40 ≤ op.length
    · have h40' : (40 : Int) ≤ (op.length : Int) := by omega
      have HR : Hid (res = .error 42) := hid (by rw [hE]; simp [P.addE, hL, hK, hn, h40'])
      clear hE hL hK hn R1 R HA
      go_wp2
      go_ret3
      exact Or.inl ⟨42, HR.out, by decide, rfl, B1.out⟩
    · have h40' : ¬ (40 : Int) ≤ (op.length : Int) := by omega
      by_cases h1000 : 1000 ≤ its.length
      · have h1000' : (1000 : Int) ≤ (its.length : Int) := by omega
        have HR : Hid (res = .error 43) := hid (by rw [hE]; simp [P.addE, hL, hK, hn, h40', h1000])
        clear hE hL hK hn R1 R HA
        go_wp2
        go_ret3
        exact Or.inl ⟨43, HR.out, by decide, rfl, B1.out⟩
      · have h1000' : ¬ (1000 : Int) ≤ (its.length : Int) := by omega
        have HR : Hid (res = .ok ((its ++ [((P.itemOf op.length ⟨1, ps, nm, tx, ats⟩, Value.slice ao nn cp) : IV)]).map (fun y => y.1), op ++ [nm])) := hid (by rw [hE]; simp [P.addE, hL, hK, hn, h40', h1000])
        have HN0 : Hid (0 < op.length) := hid (by omega)
        clear hE hL hK hn
        obtain ⟨gN, rfl⟩ : ∃ gN, aoN = some ⟨gN, 0, none⟩ := by
          rcases HF.out with ⟨_, _, h⟩ | h
          · exact absurd h (by have := n0; intro q; rw [q] at this; simp at this)
          · exact h
        clear HF
        have HW3 : Hid (RS W0 (.slice aoI its.length capI) (.slice (some ⟨gN, 0, none⟩) op.length capN) its op (((w.alloc (Obj.cells #[.int .i64 1, .int .i64 (ps : Int), .string nm, .string tx, .slice ao nn cp] 45)).alloc (Obj.cells #[.int .i64 (op.length : Int), .int .i64 1, .string nm, .string ⟨#[]⟩, .slice ao nn cp] 34)).alloc (Obj.cells #[.int .i64 (op.length : Int), .int .i64 1, .string nm, .string ⟨#[]⟩, .slice ao nn cp] 34))) := hid ((R1.out.new _).new _)
        have A3 : Hid ((((w.alloc (Obj.cells #[.int .i64 1, .int .i64 (ps : Int), .string nm, .string tx, .slice ao nn cp] 45)).alloc (Obj.cells #[.int .i64 (op.length : Int), .int .i64 1, .string nm, .string ⟨#[]⟩, .slice ao nn cp] 34)).alloc (Obj.cells #[.int .i64 (op.length : Int), .int .i64 1, .string nm, .string ⟨#[]⟩, .slice ao nn cp] 34)).ownsRow W0.heap.size 67 2 (.slice ao nn cp) ((P.itemOf op.length ⟨1, ps, nm, tx, ats⟩)).attrs.length (encL ((P.itemOf op.length ⟨1, ps, nm, tx, ats⟩)).attrs)) := hid (World.ownsRow.alloc (World.ownsRow.alloc (World.ownsRow.alloc HA.out _) _) _)
        have HC : Hid (∀ q u, [Value.int .i64 (op.length : Int), .int .i64 1, .string nm, .string ⟨#[]⟩, .slice ao nn cp][q]? = some u → (((w.alloc (Obj.cells #[.int .i64 1, .int .i64 (ps : Int), .string nm, .string tx, .slice ao nn cp] 45)).alloc (Obj.cells #[.int .i64 (op.length : Int), .int .i64 1, .string nm, .string ⟨#[]⟩, .slice ao nn cp] 34)).alloc (Obj.cells #[.int .i64 (op.length : Int), .int .i64 1, .string nm, .string ⟨#[]⟩, .slice ao nn cp] 34)).cell? ((⟨w.heap.size + 2, 0, none⟩ : Addr).add q) = some u) := hid (by
          have h := heap_alloc_new ((w.alloc (Obj.cells #[.int .i64 1, .int .i64 (ps : Int), .string nm, .string tx, .slice ao nn cp] 45)).alloc (Obj.cells #[.int .i64 (op.length : Int), .int .i64 1, .string nm, .string ⟨#[]⟩, .slice ao nn cp] 34)) (Obj.cells #[.int .i64 (op.length : Int), .int .i64 1, .string nm, .string ⟨#[]⟩, .slice ao nn cp] 34)
          rw [show ((w.alloc (Obj.cells #[.int .i64 1, .int .i64 (ps : Int), .string nm, .string tx, .slice ao nn cp] 45)).alloc (Obj.cells #[.int .i64 (op.length : Int), .int .i64 1, .string nm, .string ⟨#[]⟩, .slice ao nn cp] 34)).heap.size = w.heap.size + 2 by simp] at h
          exact World.news_of_block (cs := #[.int .i64 (op.length : Int), .int .i64 1, .string nm, .string ⟨#[]⟩, .slice ao nn cp]) h)
        have TB : Hid ((((w.alloc (Obj.cells #[.int .i64 1, .int .i64 (ps : Int), .string nm, .string tx, .slice ao nn cp] 45)).alloc (Obj.cells #[.int .i64 (op.length : Int), .int .i64 1, .string nm, .string ⟨#[]⟩, .slice ao nn cp] 34)).alloc (Obj.cells #[.int .i64 (op.length : Int), .int .i64 1, .string nm, .string ⟨#[]⟩, .slice ao nn cp] 34)).heap[w.heap.size]? = some (.cells #[.int .i64 1, .int .i64 (ps : Int), .string nm, .string tx, .slice ao nn cp] 45 (0, 0))) := hid (by rw [Below.heap_alloc _ _ _ (by simp; omega), Below.heap_alloc _ _ _ (by simp)]; exact heap_alloc_new w _)
        have hm : Hid (its.length + 1 ≤ maxLen ∧ (its.length + 1) * 72 ≤ 140737488355328 ∧ W0.heap.size ≤ (((w.alloc (Obj.cells #[.int .i64 1, .int .i64 (ps : Int), .string nm, .string tx, .slice ao nn cp] 45)).alloc (Obj.cells #[.int .i64 (op.length : Int), .int .i64 1, .string nm, .string ⟨#[]⟩, .slice ao nn cp] 34)).alloc (Obj.cells #[.int .i64 (op.length : Int), .int .i64 1, .string nm, .string ⟨#[]⟩, .slice ao nn cp] 34)).heap.size) := hid ⟨by unfold maxLen; omega, by omega, HW3.out.bel.size⟩
        have o5 : ∀ u ∈ [Value.int .i64 (op.length : Int), .int .i64 1, .string nm, .string ⟨#[]⟩, .slice ao nn cp], u.oneCell' = true := one_fiveI ((P.itemOf op.length ⟨1, ps, nm, tx, ats⟩), .slice ao nn cp) rfl
        have HO5 := hid o5
        clear o5 R1 R HA B1
        have hop : Hid (0 < 0 + op.length ∧ 0 + op.length ≤ maxLen ∧ (0 + op.length) * 16 ≤ 140737488355328 ∧ op.length + 1 ≤ maxLen ∧ (op.length + 1) * 16 ≤ 140737488355328) := hid ⟨by have := HN0.out; omega, by unfold maxLen; omega, by omega, by unfold maxLen; omega, by omega⟩
        have hlm : Hid ((op.map Value.string).length = op.length * 1) := hid (by simp)
        go_wp2_with (first
          | (at_builtin
             refine wpList_append_lies _ rfl (.tmp 72) (.tmp 74) 23 rfl W0.heap.size 34 i0 (.agg #[.int .i64 0, .int .i64 0, .string ⟨#[]⟩, .string ⟨#[]⟩, .slice none 0 0]) 5 72 Tryz.underlying23 I0.out I1.out I2.out I3.out rfl (by decide) _ its.length (encI its) rfl HW3.out.itm.1 ⟨w.heap.size + 2, 0, none⟩ 1 1 [.int .i64 (op.length : Int), .int .i64 1, .string nm, .string ⟨#[]⟩, .slice ao nn cp] rfl rfl HC.out HO5.out (by decide) hm.out.1 hm.out.2.1 hm.out.2.2 (w.heap.size + 3) (by simp) ?_
             intro g' cap' w4 hown hgrow _ _
             have G4 := hid (HW3.out.grow hgrow)
             have T4 : Hid (ItmRow W0.heap.size (.slice (some ⟨g', 0, none⟩) (its.length + 1) cap') (its ++ [((P.itemOf op.length ⟨1, ps, nm, tx, ats⟩), .slice ao nn cp)]) w4) := hid (by
               refine ⟨by rw [encI_snoc, List.length_append]; exact hown, fun y hy => ?_⟩
               rcases List.mem_append.1 hy with hy | hy
               · exact World.ownsRow.kept (HW3.out.itm.2 y hy) hgrow (rows_two (HW3.out.itm.2 y hy) HW3.out.itm.1 (by decide))
               · simp only [List.mem_singleton] at hy
                 subst hy
                 exact World.ownsRow.kept A3.out hgrow (rows_two A3.out HW3.out.itm.1 (by decide)))
             have TB4 : Hid (w4.heap[w.heap.size]? = some (.cells #[.int .i64 1, .int .i64 (ps : Int), .string nm, .string tx, .slice ao nn cp] 45 (0, 0))) := hid (by rw [hgrow.block w.heap.size (lt_of_block TB.out) (HW3.out.own _ _ _ _ TB.out (by decide))]; exact TB.out)
             have u0 : w4.cell? ⟨w.heap.size, 0, none⟩ = some (.int .i64 1) := by rw [cell_of_row _ w.heap.size 0 _ _ _ TB4.out]; rfl
             have u2 : w4.cell? ⟨w.heap.size, 2, none⟩ = some (.string nm) := by rw [cell_of_row _ w.heap.size 2 _ _ _ TB4.out]; rfl
             have v2 : (w4.alloc (Obj.cells #[] 9)).cell? ⟨w.heap.size, 2, none⟩ = some (.string nm) := by rw [World.cell?_alloc_past _ _ _ (lt_of_block TB4.out)]; exact u2
             have HN5 : Hid (∀ j u, (op.map Value.string)[j]? = some u → (w4.alloc (Obj.cells #[] 9)).cell? ((⟨gN, 0, none⟩ : Addr).add j) = some u) := hid (names_cells G4.out.1 _)
             clear hown hgrow HC HW3 A3 TB hm HO5)
          | (at_builtin
             refine wpList_append_grows _ rfl (.tmp 79) (.tmp 80) 35 rfl 9 j0 (.string ⟨#[]⟩) 1 16 Tryz.underlying35 J0.out J1.out J2.out J3.out rfl (by decide) (some ⟨w4.heap.size, 0, none⟩) 0 0 [] rfl (by simp) rfl (by simp) ⟨gN, 0, none⟩ op.length capN (op.map Value.string) rfl hlm.out HN5.out (by simp [Value.oneCell']) hop.out.1 hop.out.2.1 hop.out.2.2.1 ?_
             intro v5 w5 hown1 hgrow1
             have B5 := hid (((Below.refl _ _).alloc (Nat.le_refl _) (Obj.cells #[] 9)).grown hgrow1 (by simp) (by simp) : Below w4.heap.size w4 w5)
             have u5 : w5.cell? ⟨w.heap.size, 2, none⟩ = some (.string nm) := (B5.out.cell (p := ⟨w.heap.size, 2, none⟩) (lt_of_block TB4.out)).trans u2
             obtain ⟨g5, cap5, e5⟩ : ∃ g cap, v5 = .slice (some ⟨g, 0, none⟩) op.length cap := by
               rcases hown1.2 with ⟨_, h⟩ | ⟨g, cap, _, h, _⟩
               · have := hop.out.1; omega
               · exact ⟨g, cap, by rw [h]; simp⟩
             subst e5
             have HO5 : Hid ((w5.alloc (Obj.cells #[.string nm] 9)).ownsRow w4.heap.size 9 1 (.slice (some ⟨g5, 0, none⟩) op.length cap5) op.length (op.map Value.string)) := hid (World.ownsRow.alloc (row_base (by simpa using hown1) (by simp)) _)
             have HC5 : Hid (∀ q u, [Value.string nm][q]? = some u → (w5.alloc (Obj.cells #[.string nm] 9)).cell? ((⟨w5.heap.size, 0, none⟩ : Addr).add q) = some u) := hid (World.news_of_block (cs := #[.string nm]) (heap_alloc_new w5 _))
             have B5' := hid (B5.out.alloc B5.out.size (Obj.cells #[.string nm] 9))
             have hq5 : Hid (∀ q, (Value.slice (some ⟨g5, 0, none⟩) op.length cap5).ownBlock = some q → w4.heap.size ≤ q) := hid (fun q hq => (World.ownsRow.lt HO5.out q hq).1)
             have z5 : Hid (w4.heap.size ≤ (w5.alloc (Obj.cells #[.string nm] 9)).heap.size) := hid (B5'.out.size)
             clear hown1 hgrow1)
          | (at_builtin
             refine wpList_append_lies _ rfl (.tmp 82) (.tmp 85) 35 rfl w4.heap.size 9 j0 (.string ⟨#[]⟩) 1 16 Tryz.underlying35 J0.out J1.out J2.out J3.out rfl (by decide) _ op.length (op.map Value.string) rfl HO5.out ⟨w5.heap.size, 0, none⟩ 1 1 [.string nm] rfl rfl HC5.out (by simp [Value.oneCell']) (by decide) hop.out.2.2.2.1 hop.out.2.2.2.2 z5.out (w5.heap.size + 1) (by simp) ?_
             intro g2 cap2 w6 hown2 hgrow2 _ _
             have N6 := hid (names_row (l := op ++ [nm]) (by simpa using hown2) (by simp))
             have B6 := hid (B5'.out.grown hgrow2 B5'.out.size (fun q hq => hq5.out q hq))
             clear hown2 hgrow2))
        go_ret3
        exact Or.inr ⟨_, _, _, _, HR.out, rfl, ⟨G4.out.2.trans (B6.out.mono G4.out.2.size), T4.out.below B6.out, names_base N6.out G4.out.2.size⟩⟩
end
end Go.Proofs.YtafjffnijonglaaGreatDoor
namespace Go.Proofs.YtafjffnijonglaaGreatDoor
open Go.RowKit Go.Shelf
section
variable {W0 : World} {VI VN : Value} {its : List IV} {op : List ByteArray} {w : World}
theorem rtake_any (R : Hid (RS W0 VI VN its op w)) (t : L.Tok) (v : Value) (HA : Hid (w.ownsRow W0.heap.size 67 2 v t.attrs.length (encL t.attrs))) (hk : t.kind = 1 ∨ t.kind = 2 ∨ t.kind = 3 ∨ t.kind = 4) (ho : op.length ≤ 1048576) (hl : its.length ≤ 1048576) :
    Calls Tryz.prog 15 #[VI, VN, tokV t v] w (RTakePost W0 VI VN (P.takeP (its.map (·.1)) op t)) := by
  have hv : ∃ ao nn cp, v = .slice ao nn cp := by
    rcases HA.out.2 with ⟨h, _⟩ | ⟨_, _, _, h, _⟩
    · exact ⟨_, _, _, h⟩
    · exact ⟨_, _, _, h⟩
  rcases hk with hk | hk | hk | hk
  · exact rtake_beg R t v hv HA hk ho hl
  · exact rtake_end R t v hv hk ho
  · exact rtake_both R t v hv HA hk ho hl
  · exact rtake_txt R t v hv HA hk ho hl
end
set_option maxRecDepth 100000 in
set_option maxHeartbeats 4000000 in
theorem rparse_any (s : ByteArray) (w : World) (hz : s.size ≤ 20000) (res : Except L.Bad (List P.Itm)) (H : Hid (P.parseP s = res)) :
    Calls Tryz.prog 7 #[.string s] w (ParsePost w res) := by
  have D0 : Hid (RS w (.slice none 0 0) (.slice none 0 0) [] [] w) := hid ⟨Below.refl _ _, ⟨World.ownsRow_nil _ _ _ _, by simp⟩, Or.inl ⟨rfl, rfl⟩⟩
  go_enter Tryz.func7, Tryz.ntmps7
  go_wp2
  go_loopw [5, 6, 7] (fun v5 v6 v7 W => ∃ (i g : Nat) (its : List IV) (op : List ByteArray), v7 = .int .i64 (i : Int) ∧ i ≤ s.size ∧ s.size - i < g ∧ its.length ≤ i ∧ op.length ≤ i ∧ Hid (P.parseF g s i (its.map (·.1)) op = res) ∧ Hid (RS w v5 v6 its op W)) (fun _ _ v7 _ => s.size - (intOf v7).toNat)
  case atStart => exact ⟨0, s.size + 1, [], [], rfl, by omega, by omega, by simp, by simp, H, D0⟩
  case round =>
    clear H D0
    obtain ⟨i, g, its, op, rfl, hi, hg, hl, ho, H, HD⟩ := hrel
    by_cases hlt : i < s.size
    · have hlt' : (i : Int) < (s.size : Int) := by omega
      go_wp2_with fail
      refine Calls.mono (rone_any s (i : Int) wr hz) ?_
      rw [oneP_nat hlt]
      rintro e w1 ⟨hb1, ⟨q, e0, h1, h2, rfl⟩ | ⟨t, n, v, h1, rfl, h3⟩⟩
      · have HR : Hid (res = .error (q, e0)) := by show _ = _; rw [← H.out, P.parse_bad (by omega) hlt h1]
        have b1 : (e0 == 0) = false := beq_eq_false_iff_ne.2 h2
        have HE := hid h2
        have HB2 : Hid (Below w.heap.size w w1) := hid (HD.out.below hb1).bel
        clear h1 h2 hb1
        unfold zeroT
        go_wp2
        go_ret3
        refine ⟨HB2.out.alloc HB2.out.size _, Or.inl ⟨q, e0, HR.out, HE.out, rfl⟩⟩
      · have hn := L.one_go hlt h1
        obtain ⟨may, hpos, -⟩ := L.one_may hlt h1
        have HO := hid h1
        have HK := hid may.1
        have HP := hid hpos
        have bs : w.heap.size ≤ wr.heap.size := HD.out.bel.size
        have H3 : Hid (w1.ownsRow w.heap.size 67 2 v t.attrs.length (encL t.attrs)) := hid (row_base h3 bs)
        obtain ⟨ao, nn, cp, rfl⟩ : ∃ ao nn cp, v = .slice ao nn cp := by
          rcases h3.2 with ⟨h, _⟩ | ⟨_, _, _, h, _⟩
          · exact ⟨_, _, _, h⟩
          · exact ⟨_, _, _, h⟩
        have D2 := hid ((HD.out.below hb1).new (.cells #[.int .i64 t.kind, .int .i64 (t.pos : Int), .string t.name, .string t.text, .slice ao nn cp] 45))
        have A2 := hid (World.ownsRow.alloc H3.out (.cells #[.int .i64 t.kind, .int .i64 (t.pos : Int), .string t.name, .string t.text, .slice ao nn cp] 45))
        clear h1 hb1 h3 may HD H3 hpos
        unfold tokV
        go_wp2_with fail
        refine Calls.mono (rtake_any D2 t (.slice ao nn cp) A2 HK.out (by omega) (by omega)) ?_
        rintro e w3 (⟨e0, h4, h5, rfl, hb3⟩ | ⟨VI', VN', its', op', h4, rfl, hd3⟩)
        · have HR : Hid (res = .error ((i : Int), e0)) := by show _ = _; rw [← H.out, P.parse_no (by omega) hlt HO.out h4, HP.out]
          have b1 : (e0 == 0) = false := beq_eq_false_iff_ne.2 h5
          have HE := hid h5
          have HB := hid hb3
          clear h4 h5 hb3 D2 A2
          go_wp2
          go_ret3
          exact ⟨HB.out, Or.inl ⟨(i : Int), e0, HR.out, HE.out, rfl⟩⟩
        · have HN : Hid (P.parseF (g - 1) s n (its'.map (·.1)) op' = res) := by show _ = _; rw [← H.out, P.parse_next (by omega) hlt HO.out h4]
          have hle := P.take_len h4
          have D3 := hid hd3
          simp only [List.length_map] at hle
          clear h4 hd3 D2 A2
          go_wp2
          go_roundw
          case rel => exact ⟨n, g - 1, its', op', rfl, by omega, by omega, by omega, by omega, HN, D3⟩
          case measure => simp [intOf]; omega
    · have hlt' : ¬ (i : Int) < (s.size : Int) := by omega
      obtain ⟨aoI, capI, rfl⟩ := HD.out.form
      obtain ⟨aoN, capN, rfl⟩ := HD.out.formN
      have HR : Hid (res = (if its.length = 0 then .error ((s.size : Int), 40) else if op.length ≠ 0 then .error ((s.size : Int), 41) else .ok (its.map (·.1)))) := by
        show _ = _
        rw [← H.out, P.parse_end (by omega) (by omega)]
        simp only [List.length_map]
      have HR2 := HR.out
      clear HR H
      by_cases h0 : its.length = 0
      · rw [if_pos h0] at HR2
        have HR3 := hid HR2
        have HB := hid HD.out.bel
        have b0 : ((its.length : Int) == 0) = true := by simp [h0]
        clear HR2 HD h0
        go_wp2
        go_ret3
        exact ⟨HB.out, Or.inl ⟨_, _, HR3.out, by decide, rfl⟩⟩
      · rw [if_neg h0] at HR2
        have b0 : ((its.length : Int) == 0) = false := beq_eq_false_iff_ne.2 (by omega)
        by_cases h1 : op.length ≠ 0
        · rw [if_pos h1] at HR2
          have HR3 := hid HR2
          have HB := hid HD.out.bel
          have b1 : (0 : Int) < (op.length : Int) := by omega
          clear HR2 HD h0 h1
          go_wp2
          go_ret3
          exact ⟨HB.out, Or.inl ⟨_, _, HR3.out, by decide, rfl⟩⟩
        · rw [if_neg h1] at HR2
          have HR3 := hid HR2
          have HB := hid HD.out.bel
          have HI := hid HD.out.itm
          have b1 : ¬ (0 : Int) < (op.length : Int) := by omega
          clear HR2 HD h0 h1
          go_wp2
          go_ret3
          exact ⟨HB.out, Or.inr ⟨its, _, HR3.out, rfl, HI.out⟩⟩
end Go.Proofs.YtafjffnijonglaaGreatDoor
namespace Go.Proofs.YtafjffnijonglaaGreatDoor
open Go.ChangeShapes Go.WideShapes Go.ChangeAt Go.RowKit Go.Shelf
open Go.ChangeMaps (open_string shut_string)
theorem items_nil (w : World) : ItemsIn (.slice none 0 0) [] w := ⟨⟨none, 0, rfl, by simp, by simp⟩, by simp⟩
namespace ParseReads
set_option maxRecDepth 100000 in
set_option maxHeartbeats 4000000 in
theorem walk (s : ByteArray) (_ : s.size ≤ 140737488351232) (w : World) (ht : Tab w) :
    Calls Tryz.prog 3 #[.string s] w fun e w' => e = .returned (.bool true) ∧ Below w.heap.size w w' := by
  have HT := hid ht
  clear ht
  go_enter Tryz.func3, Tryz.ntmps3
  by_cases hs : 20000 < s.size
  · have hs' : (20000 : Int) < (s.size : Int) := by omega
    go_wp2_with fail
    refine (aliveP_any _ HT.out).mono ?_
    rintro e w2 ⟨rfl, hb2⟩
    have HB2 := hid hb2
    clear hb2
    go_wp2
    go_ret
    exact ⟨rfl, HB2.out⟩
  · have hs' : ¬ (20000 : Int) < (s.size : Int) := by omega
    obtain ⟨res, HR⟩ : ∃ res, Hid (P.parseP s = res) := ⟨_, hid rfl⟩
    go_wp2_with fail
    refine Calls.mono (parse_any s w HT.out (by omega) res HR) ?_
    rintro e w1 ⟨hb1, ⟨q, e0, h1, h2, rfl⟩ | ⟨l, V, h1, rfl, h3⟩⟩
    · have HT1 := hid (HT.out.below hb1)
      have HB1 := hid hb1
      have HQ := hid h1
      clear hb1 h1 h2
      go_wp2_with fail
      refine Calls.mono (rparse_any s w1 (by omega) res HR) ?_
      rintro e w2 ⟨hb2, ⟨q', e0', h1, h2, rfl⟩ | ⟨l, V, h1, rfl, h3⟩⟩
      · have hq := HQ.out.symm.trans h1
        simp only [Except.error.injEq, Prod.mk.injEq] at hq
        obtain ⟨rfl, rfl⟩ := hq
        have HT2 := hid (HT1.out.below hb2)
        have HB2 := hid (HB1.out.trans (hb2.mono HB1.out.size))
        clear hb2 h1 h2 HQ HR
        go_wp2_with fail
        refine (aliveP_any w2 HT2.out).mono ?_
        rintro e w3 ⟨rfl, hb3⟩
        have HB3 := hid (HB2.out.trans (hb3.mono HB2.out.size))
        clear hb3
        go_wp2_with fail
        refine (sameI_any (.slice none 0 0) (.slice none 0 0) [] [] w3 (hid (items_nil _)) (hid (items_nil _)) rfl).mono ?_
        rintro e w4 ⟨rfl, hb4⟩
        have HB4 := hid (HB3.out.trans (hb4.mono HB3.out.size))
        clear hb4
        go_wp2
        go_ret
        exact ⟨rfl, HB4.out⟩
      · have hq := HQ.out.symm.trans h1
        cases hq
    · have HT1 := hid (HT.out.below hb1)
      have HB1 := hid hb1
      have HQ := hid h1
      have HI := hid (items_in h3)
      obtain ⟨ao, cap, rfl, _⟩ := HI.out.1
      clear hb1 h1 h3
      go_wp2_with fail
      refine Calls.mono (rparse_any s w1 (by omega) res HR) ?_
      rintro e w2 ⟨hb2, ⟨q', e0', h1, h2, rfl⟩ | ⟨l', V', h1, rfl, h3⟩⟩
      · have hq := HQ.out.symm.trans h1
        cases hq
      · have hq := HQ.out.symm.trans h1
        simp only [Except.ok.injEq] at hq
        have HE := hid hq
        have HI2 := hid (HI.out.below hb2)
        have HI' := hid (items_in h3)
        obtain ⟨ao', cap', rfl, _⟩ := HI'.out.1
        have HT2 := hid (HT1.out.below hb2)
        have HB2 := hid (HB1.out.trans (hb2.mono HB1.out.size))
        clear hb2 h1 h3 HQ HR hq HI
        go_wp2_with fail
        refine (aliveP_any w2 HT2.out).mono ?_
        rintro e w3 ⟨rfl, hb3⟩
        have HI3 := hid (HI2.out.below hb3)
        have HI3' := hid (HI'.out.below hb3)
        have HB3 := hid (HB2.out.trans (hb3.mono HB2.out.size))
        clear hb3 HI2 HI'
        go_wp2_with fail
        refine (sameI_any _ _ l l' w3 HI3 HI3' HE.out).mono ?_
        rintro e w4 ⟨rfl, hb4⟩
        have HB4 := hid (HB3.out.trans (hb4.mono HB3.out.size))
        clear hb4
        go_wp2
        go_ret
        exact ⟨rfl, HB4.out⟩

set_option maxRecDepth 100000 in
theorem contract (H : Type) (enc : TypeId × Value → H) (W : World) (base : Nat) (args : Array Value) (ds gs : List (DataW H)) (before : List MemPlace)
    (hval : ∀ (j : Nat) t v, Tryz.f3.params[j]? = some t → args[j]? = some v → Value.okWide Tryz.prog W .any base t v)
    (hW : DataW.Whole enc Tryz.prog Tryz.f3.params.toList Rows.parseReadsSpec.vars false W args.toList ds gs before) (hL : laidMetH Tryz.prog laidT W)
    (hsz : (DataW.weightsEach Tryz.prog (Tryz.f3.params.toList ++ (OpenSpec.ofChange Rows.parseReadsSpec).bare.plain.varTypes Tryz.prog) (ds ++ gs)).all (· ≤ reachBytes) = true) :
    Calls Tryz.prog 3 args W fun e W' => ∃ v, e = .returned v ∧ Rows.parseReadsSpec.post enc Tryz.prog Tryz.f3 false true false false W args v W' := by
  have hW' := hW
  obtain ⟨p, q, hA0, hV, rfl, hfz, hnd⟩ := hW
  have hA : DataW.TrodAll enc Tryz.prog W 0 (fun _ => true) true Tryz.f3.params.toList args.toList ds p := hA0
  rw [Tryz.params3] at hA hval
  rw [Tryz.params3] at hsz
  obtain ⟨v0, vs0, d0, ds0, p0, q0, hargs, rfl, rfl, h0, r0⟩ := trodAll_cons hA
  obtain ⟨rfl, rfl, rfl⟩ := trodAll_nil r0
  obtain rfl : args = #[v0] := by cases args; simp_all
  obtain ⟨rfl, rfl⟩ := trodVars_none hV
  obtain ⟨a0, rfl, rfl, rfl, w0⟩ := open_string Tryz.underlying9 (hval 0 9 v0 rfl rfl) h0
  have z0 : a0.size ≤ 140737488351232 := by simpa [reachBytes] using sized_string hsz (j := 0) (t := 9) rfl rfl
  have hT := tab_of hL
  clear hA0 hL hsz
  simp only [List.append_nil] at hW'
  refine (walk a0 z0 W hT).mono fun e W' ⟨he, hb⟩ => ?_
  subst he
  exact ⟨_, rfl, _, _, _, [], [], [], hW', trodAll_mk1 (shut_bool Tryz.underlying4 _), (trodAll_cons_mk (shut_string Tryz.underlying9 w0) trodAll_mk0), rfl, hb.frame _, fun h => by cases h⟩

theorem reads (os : Os) {H : Type} (enc : TypeId × Value → H) : ∃ places, DataW.whole enc Tryz.prog ((World.doorLaid Tryz.prog 400 os).forCall (fun _ _ => 0) ⟨#[], #[.string ⟨#[]⟩], []⟩).memory Tryz.f3.params.toList Rows.parseReadsSpec.vars false #[Value.string ⟨#[]⟩].toList 8 = some ([.lit (.string [])], [], places) :=
  ⟨[], by kernel_rfl⟩
theorem laid_met (os : Os) (args : Array Value) : laidMet Tryz.prog Rows.parseReadsRow.laid ((World.doorLaid Tryz.prog 400 os).forCall (fun _ _ => 0) ⟨#[], args, []⟩).memory :=
  laidMet_of_run' 8 (by kernel_rfl) (by kernel_rfl)

set_option maxRecDepth 100000 in
theorem lifted (os : Os) (started : os.Started) (H : Type) (enc : TypeId × Value → H) (F : Stop.Interp) :
    ReturnsInHanded {} Tryz.checked os 3 .any ((OpenSpec.ofChange Rows.parseReadsSpec).preRow enc Tryz.prog Tryz.f3 Rows.parseReadsRow.domain false Rows.parseReadsRow.laid) (((OpenSpec.ofChange Rows.parseReadsSpec).at F).post enc Tryz.prog Tryz.f3 false true false false) := by
  obtain ⟨places, hx⟩ := reads os enc
  refine returnsInHanded_of_row (C := Tryz.checked) (s := (OpenSpec.ofChange Rows.parseReadsSpec)) own started (by kernel_rfl) Tryz.func3
    (witness_row_at (enc := enc) (C := Tryz.checked) false (World.doorLaid Tryz.prog 400 os) #[.string ⟨#[]⟩] rfl (by kernel_rfl) (by kernel_rfl) (by kernel_rfl)
      (OpenSpec.preRow_of_cond 8 hx (by kernel_rfl) (fun k hk => by cases hk) (by kernel_rfl) (laid_met os _))) ?_
  intro W base args ds gs before hval hW _ hcond hsz hL _ _
  exact contract H enc W base args ds gs before hval hW hL hsz

theorem over : Rows.ParseReadsSaid :=
  OpenClaim.holds_of_cond 3 Tryz.f3 rfl rfl rfl rfl rfl rfl rfl ⟨rfl, rfl, rfl, rfl, rfl⟩ rfl rfl rfl rfl rfl (by kernel_rfl) Tryz.func3 (by kernel_rfl)
    (of_decide_eq_true (by kernel_rfl)) (by unfold Func.isWrapper; first | (rw [if_pos (by decide +kernel)]; kernel_rfl) | (rw [if_neg (by decide +kernel)]; exact ⟨rfl, rfl⟩))
    (fun os started H enc _ F => by rw [OpenClaim.pre_eq_preRow]; exact lifted os started H enc F)
theorem plain (f : FuncId) (fn : Func) (hf : Tryz.pinned.checked.prog.funcNamed Rows.parseReadsRow.func = some f) (hfn : Tryz.pinned.checked.prog.funcs[f]? = some fn) :
    false = Tryz.pinned.checked.prog.looks [] ∧ ∀ (j : Nat) t, fn.params[j]? = some t → Tryz.pinned.checked.prog.wantsStandIn t = false := by
  obtain rfl : f = 3 := Option.some.inj ((show Tryz.prog.funcNamed Rows.parseReadsRow.func = some 3 by kernel_rfl).symm.trans hf) |>.symm
  obtain rfl : fn = Tryz.f3 := (Option.some.inj (Tryz.func3.symm.trans hfn)).symm
  refine ⟨by kernel_rfl, fun j t ht => ?_⟩
  rw [Tryz.params3] at ht
  have hm : t ∈ [9] := by simpa using Array.mem_of_getElem? ht
  have hall : ([9].all fun u => !Tryz.prog.wantsStandIn u) = true := by kernel_rfl
  exact (show Tryz.prog.wantsStandIn t = false by simpa using List.all_eq_true.1 hall t hm)
end ParseReads

theorem parseReads_holds : Rows.ParseReadsCardSaid :=
  Claim7.holds_tied_plain_at .later [] _ _ _ _ ParseReads.over (fun _ h => by cases h) (by kernel_rfl) (fun _ h => by cases h) parseReads_row_tie rfl ⟨rfl, rfl⟩ (by kernel_rfl) rfl ParseReads.plain (by kernel_rfl)
#print axioms parseReads_holds
end Go.Proofs.YtafjffnijonglaaGreatDoor
