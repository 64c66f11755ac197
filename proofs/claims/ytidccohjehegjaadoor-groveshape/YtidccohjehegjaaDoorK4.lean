/- The walks of grove's calls that read one node, or the tree's own numbers: of, Kid, Root, Len, Next. -/
import Derived.Test.YtidccohjehegjaaDoorK1
import Derived.Test.YtidccohjehegjaaDoorPPlainK
import Derived.Test.YtidccohjehegjaaDoorK3
import Derived.Deep.QuietTactic
import Derived.BigQuiet
import Derived.Deep.RegionLaw
import Derived.Deep.AppendLies
import Derived.ArgAppend
import Derived.Maps.OwnSet
import Derived.Maps.OwnOps
import Derived.Test.YtidccohjehegjaaDoorK2
import Derived.Deep.RegionHeld3
namespace Go.Proofs.YtidccohjehegjaaDoor
namespace L
open G E
theorem bytes_one {a b : ByteArray} (h : a.data.toList = b.data.toList) : a = b := by
  cases a
  cases b
  simp_all
theorem app_list (s m : ByteArray) : (s ++ m).data.toList = s.data.toList ++ m.data.toList := by simp [ByteArray.data_append]
theorem app_size (s m : ByteArray) : (s ++ m).size = s.size + m.size := by simp
theorem app_drop (s m : ByteArray) (i : Nat) (hi : i ≤ s.size) : (s ++ m).data.toList.drop i = s.data.toList.drop i ++ m.data.toList := by
  rw [app_list, List.drop_append_of_le_length (by simpa using hi)]
theorem run_app {p : UInt8 → Bool} {s m : ByteArray} {i : Nat} (h : runP p s i < s.size) : runP p (s ++ m) i = runP p s i := by
  have hi : i ≤ s.size := by have := run_ge p s i; omega
  unfold runP at *
  rw [app_drop s m i hi, List.takeWhile_append]
  rw [if_neg]
  intro q
  rw [q] at h
  simp at h
  omega
theorem app_extract {s m : ByteArray} {i j : Nat} (hj : j ≤ s.size) : (s ++ m).extract i j = s.extract i j := by
  apply bytes_one
  rw [Lib.extract_data, Lib.extract_data]
  by_cases hi : i ≤ s.size
  · rw [app_drop s m i hi, List.take_append_of_le_length (by simp; omega)]
  · have e : j - i = 0 := by omega
    simp [e]
theorem app_there1 {s m : ByteArray} {i : Nat} (c : UInt8) (h : i < s.size) : thereB (s ++ m) i [c] = thereB s i [c] := by
  unfold thereB
  rw [app_drop s m i (by omega), drop_at s i h]
  simp [List.isPrefixOf]
theorem app_there {s m : ByteArray} {i : Nat} {t : List UInt8} (hi : i ≤ s.size) (h : thereB s i t = true) : thereB (s ++ m) i t = true := by
  unfold thereB at *
  rw [app_drop s m i hi]
  rw [List.isPrefixOf_iff_prefix] at *
  exact h.trans (List.prefix_append _ _)
/-- A slash alone is no attribute. -/
theorem attr_slash {s : ByteArray} {i : Nat} {acc : List Attr} (h : i < s.size) (hc : s[i] = 47) : ∃ e, attrP s i acc = .error e := by
  have hr : runP wordB s i = i := run_no h (by rw [hc]; rfl)
  have hn : nameP (s.extract i (runP wordB s i)) = false := by
    rw [hr]
    have : s.extract i i = noB := by
      apply bytes_one
      rw [Lib.extract_data]
      simp [noB]
    rw [this]
    decide
  unfold attrP
  simp only
  rw [if_pos hn]
  exact ⟨_, rfl⟩
theorem there_slash {s m : ByteArray} {k : Nat} {acc : List Attr} {a : Attr} {n : Nat} (hk : k < s.size) (ha : attrP s k acc = .ok (a, n)) : thereB (s ++ m) k [47, 62] = false := by
  cases h : thereB (s ++ m) k [47, 62]
  · rfl
  · have h1 := there_cons (s ++ m) k 47 [62] (by rw [app_size]; omega)
    rw [h] at h1
    have h2 : thereB (s ++ m) k [47] = true := by
      rw [there1 _ _ _ (by rw [app_size]; omega)]
      have := h1.symm
      rw [Bool.and_eq_true] at this
      exact this.1
    rw [app_there1 47 hk, there1 s k 47 hk] at h2
    obtain ⟨e, he⟩ := attr_slash (acc := acc) hk (by simpa using (beq_iff_eq.1 h2).symm)
    rw [he] at ha
    cases ha
theorem attr_app {s m : ByteArray} {i : Nat} {acc : List Attr} {a : Attr} {n : Nat} (h : attrP s i acc = .ok (a, n)) : attrP (s ++ m) i acc = .ok (a, n) := by
  obtain ⟨h1, h2, h3, h4, h5, h6, h7, h8, rfl, rfl⟩ := attr_ok h
  have l4 := there_lt h4
  have l5 := there_lt h5
  have r1 : runP wordB (s ++ m) i = runP wordB s i := run_app l4
  have r2 : runP (notB 34) (s ++ m) (runP wordB s i + 2) = runP (notB 34) s (runP wordB s i + 2) := run_app h6
  have e1 : (s ++ m).extract i (runP wordB s i) = s.extract i (runP wordB s i) := app_extract (by omega)
  have e2 : (s ++ m).extract (runP wordB s i + 2) (runP (notB 34) s (runP wordB s i + 2)) = s.extract (runP wordB s i + 2) (runP (notB 34) s (runP wordB s i + 2)) := app_extract (by omega)
  have := attr_mk (s := s ++ m) (i := i) (acc := acc) (by rw [r1, e1]; exact h1) h2 (by rw [r1, e1]; exact h3) (by rw [r1]; exact app_there (by omega) h4) (by rw [r1]; exact app_there (by omega) h5)
    (by rw [r1, r2, app_size]; omega) (by rw [r1, r2, e2]; exact h7) (by rw [r1, r2, e2]; exact h8)
  rw [this, r1, r2, e1, e2]
theorem attrs_app {s m : ByteArray} : ∀ (f i : Nat) (acc acc' : List Attr) (k : Nat), attrsF f s i acc = .ok (acc', k) → k < s.size → (thereB s k [62] = true ∨ thereB s k [47, 62] = true) → i ≤ s.size → attrsF f (s ++ m) i acc = .ok (acc', k)
  | 0, i, acc, acc', k, h, _, _, _ => by simpa [attrsF] using h
  | f + 1, i, acc, acc', k, h, hk, ht, hi => by
    rw [attrs_succ] at h
    rw [attrs_succ]
    split at h
    · rename_i hm
      obtain ⟨m1, m2, m3, m4⟩ := more_go hm
      have r1 : runP blankB (s ++ m) i = runP blankB s i := run_app m2
      cases ha : attrP s (runP blankB s i) acc with
      | error e => rw [ha] at h; cases h
      | ok p =>
        obtain ⟨a, n⟩ := p
        rw [ha] at h
        have hg := attr_go ha
        have hm2 : moreB (s ++ m) i (runP blankB s i) = true := by
          unfold moreB
          rw [app_there1 62 m2, m3, there_slash m2 ha, app_size]
          simp
          omega
        rw [r1, if_pos hm2, attr_app ha]
        exact attrs_app f n (acc ++ [a]) acc' k h hk ht hg.2.1
    · simp only [Except.ok.injEq, Prod.mk.injEq] at h
      obtain ⟨rfl, rfl⟩ := h
      have r1 : runP blankB (s ++ m) i = runP blankB s i := run_app hk
      have hm2 : moreB (s ++ m) i (runP blankB s i) = false := by
        unfold moreB
        rcases ht with h | h
        · rw [app_there (by omega) h]; simp
        · rw [app_there (by omega) h]; simp
      rw [r1, if_neg (by rw [hm2]; simp)]
/-- A tag is told alike, whatever stands behind it. -/
theorem one_app {s m : ByteArray} {i : Nat} {t : Tok} {n : Nat} (hi : i < s.size) (h : oneN s i = .ok (t, n)) (hk : t.kind ≠ 4) : oneN (s ++ m) i = .ok (t, n) := by
  unfold oneN at h
  cases h1 : thereB s i [60, 47] with
  | true =>
    rw [h1, if_pos rfl] at h
    obtain ⟨h2, h3, rfl, rfl⟩ := end_ok h
    have l3 := there_lt h3
    have g1 := run_ge blankB s (runP wordB s (i + 2))
    have r1 : runP wordB (s ++ m) (i + 2) = runP wordB s (i + 2) := run_app (by omega)
    have r2 : runP blankB (s ++ m) (runP wordB s (i + 2)) = runP blankB s (runP wordB s (i + 2)) := run_app l3
    have e1 : (s ++ m).extract (i + 2) (runP wordB s (i + 2)) = s.extract (i + 2) (runP wordB s (i + 2)) := app_extract (by omega)
    unfold oneN
    rw [app_there (by omega) h1, if_pos rfl]
    unfold endP
    simp only
    rw [r1, r2, e1, if_neg (by rw [h2]; simp), if_pos (app_there (by omega) h3)]
  | false =>
    rw [h1, if_neg (by simp)] at h
    cases h2 : thereB s i [60] with
    | false =>
      rw [h2, if_neg (by simp)] at h
      obtain ⟨_, _, rfl, _⟩ := text_ok h
      exact absurd rfl hk
    | true =>
      rw [h2, if_pos rfl] at h
      obtain ⟨h3, acc, k, h4, h5⟩ := beg_ok h
      have a2 := run_le (p := wordB) (s := s) (i := i + 1) (by omega)
      have hks : k < s.size := by rcases h5 with ⟨q, _⟩ | ⟨_, q, _⟩ <;> exact there_lt q
      have g1 := attrs_ok s _ _ _ _ _ h4 a2 trivial (by simp) (by simp)
      have r1 : runP wordB (s ++ m) (i + 1) = runP wordB s (i + 1) := run_app (by omega)
      have e1 : (s ++ m).extract (i + 1) (runP wordB s (i + 1)) = s.extract (i + 1) (runP wordB s (i + 1)) := app_extract a2
      have hn : thereB (s ++ m) i [60, 47] = false := by
        have g2 := g1.2.2.2.1
        have g3 := run_ge wordB s (i + 1)
        cases hb : thereB (s ++ m) i [60, 47]
        · rfl
        · exfalso
          rw [there_cons _ _ _ _ (by rw [app_size]; omega), Bool.and_eq_true] at hb
          have i1 : i + 1 < s.size := by omega
          have hb2 := hb.2
          rw [app_there1 47 i1] at hb2
          have hc : thereB s i [60, 47] = true := by
            rw [there_cons s i 60 [47] hi, hb2]
            rw [there1 s i 60 hi] at h2
            rw [h2]
            rfl
          rw [h1] at hc
          cases hc
      have hat : attrsF ((s ++ m).size + 1) (s ++ m) (runP wordB s (i + 1)) [] = .ok (acc, k) := by
        rw [attrs_enough (s ++ m) ((s ++ m).size + 1) ((s ++ m).size + (s.size + 1) + 1) _ [] (by omega) (by omega)]
        have h4' : attrsF ((s ++ m).size + (s.size + 1) + 1) s (runP wordB s (i + 1)) [] = .ok (acc, k) := by
          rw [← h4]
          exact attrs_enough s _ _ _ _ (by omega) (by omega)
        exact attrs_app _ _ _ _ _ h4' hks (by rcases h5 with ⟨q, _⟩ | ⟨_, q, _⟩; exact Or.inl q; exact Or.inr q) a2
      unfold oneN
      rw [hn, if_neg (by simp), app_there (by omega) h2, if_pos rfl]
      unfold begP
      simp only
      rw [r1, e1, if_neg (by rw [h3]; simp), hat]
      simp only
      rcases h5 with ⟨q, rfl, rfl⟩ | ⟨q0, q, rfl, rfl⟩
      · rw [if_pos (app_there (by omega) q)]
      · rw [if_neg (by rw [app_there1 62 hks, q0]; simp), if_pos (app_there (by omega) q)]
end L
end Go.Proofs.YtidccohjehegjaaDoor
namespace Go.Proofs.YtidccohjehegjaaDoor
open Go.RowKit Go.Shelf
def encA (a : L.Attr) : List Value := [.string a.1, .string a.2]
def encL (l : List L.Attr) : List Value := l.flatMap encA
theorem row_below {v : Value} {w : World} {e : TypeId} {size n : Nat} {xs : List Value} {base : Nat} {w' : World} (h : w.ownsRow base e size v n xs) (hb : Below w.heap.size w w') : w'.ownsRow base e size v n xs := by
  obtain ⟨h1, h2⟩ := h
  refine ⟨h1, ?_⟩
  rcases h2 with h2 | ⟨g, cap, cur, h3, h4, h5, h6⟩
  · exact Or.inl h2
  · exact Or.inr ⟨g, cap, cur, h3, h4, by rw [hb.block g (lt_of_block h5)]; exact h5, h6⟩
theorem str_eq (a b : ByteArray) : (a.toList == b.toList) = decide (a = b) := by
  rw [ByteArray.toList_eq, ByteArray.toList_eq]
  by_cases h : a = b
  · subst h; simp
  · have : a.data ≠ b.data := fun q => h (by cases a; cases b; simp_all)
    simp [h, this]
theorem encL_length (l : List L.Attr) : (encL l).length = l.length * 2 := by
  induction l with
  | nil => rfl
  | cons a l ih => simp only [encL, List.flatMap_cons, List.length_append, List.length_cons] at *; rw [ih]; simp [encA]; omega
theorem encL_snoc (l : List L.Attr) (a : L.Attr) : encL (l ++ [a]) = encL l ++ encA a := by simp [encL]
theorem encL_at : ∀ (l : List L.Attr) (j : Nat) (hj : j < l.length), (encL l)[j * 2]? = some (.string l[j].1) ∧ (encL l)[j * 2 + 1]? = some (.string l[j].2)
  | a :: l, 0, _ => by simp [encL, encA]
  | a :: l, j + 1, hj => by
    have := encL_at l j (by simpa using hj)
    have e1 : (j + 1) * 2 = j * 2 + 1 + 1 := by omega
    simp only [encL, List.flatMap_cons, encA, List.cons_append, List.nil_append, e1, List.getElem?_cons_succ] at *
    simpa using this
abbrev IV := P.Itm × Value
def encI1 (x : IV) : List Value := [.int .i64 x.1.level, .int .i64 x.1.kind, .string x.1.name, .string x.1.text, x.2]
def encI (l : List IV) : List Value := l.flatMap encI1
/-- Items lie in a row of the call's own, and each one's attributes in another. -/
def ItmRow (base : Nat) (V : Value) (l : List IV) (w : World) : Prop :=
  w.ownsRow base 49 5 V l.length (encI l) ∧ ∀ x ∈ l, w.ownsRow base 79 2 x.2 x.1.attrs.length (encL x.1.attrs)
theorem encI_snoc (l : List IV) (x : IV) : encI (l ++ [x]) = encI l ++ encI1 x := by simp [encI]
theorem ItmRow.below {base : Nat} {V : Value} {l : List IV} {w w' : World} (h : ItmRow base V l w) (hb : Below w.heap.size w w') : ItmRow base V l w' := ⟨row_below h.1 hb, fun x hx => row_below (h.2 x hx) hb⟩
def itmV (x : P.Itm) (v : Value) : Value := .agg #[.int .i64 x.level, .int .i64 x.kind, .string x.name, .string x.text, v]
end Go.Proofs.YtidccohjehegjaaDoor
namespace Go.Proofs.YtidccohjehegjaaDoor
open Go.RowKit Go.Shelf Go.Maps
namespace N
/-- The block of an id's node. -/
def look : List (Int × Nat) → Int → Option Nat
  | [], _ => none
  | (i, g) :: l, id => if i = id then some g else look l id
theorem look_none : ∀ {l : List (Int × Nat)} {id : Int}, id ∉ l.map (·.1) → look l id = none
  | [], _, _ => rfl
  | (i, g) :: l, id, h => by
    simp only [List.map_cons, List.mem_cons, not_or] at h
    rw [look, if_neg (fun q => h.1 q.symm)]
    exact look_none h.2
theorem look_mem : ∀ {l : List (Int × Nat)} {id : Int} {g : Nat}, (l.map (·.1)).Nodup → (id, g) ∈ l → look l id = some g
  | (i, g') :: l, id, g, hd, h => by
    simp only [List.map_cons, List.nodup_cons] at hd
    rcases List.mem_cons.1 h with q | q
    · rw [Prod.mk.injEq] at q
      rw [look, if_pos q.1.symm, q.2]
    · rw [look, if_neg (fun e : i = id => hd.1 (by rw [e]; exact List.mem_map_of_mem (f := (·.1)) q))]
      exact look_mem hd.2 q
theorem look_some : ∀ {l : List (Int × Nat)} {id : Int} {g : Nat}, look l id = some g → (id, g) ∈ l
  | (i, g') :: l, id, g, h => by
    rw [look] at h
    split at h
    · rename_i q
      simp only [Option.some.injEq] at h
      rw [← h, ← q]
      exact List.mem_cons_self ..
    · exact List.mem_cons_of_mem _ (look_some h)
theorem look_perm {l m : List (Int × Nat)} (h : l.Perm m) (hd : (l.map (·.1)).Nodup) (id : Int) : look l id = look m id := by
  have hm : (m.map (·.1)).Nodup := (h.map (·.1)).nodup_iff.1 hd
  cases e : look l id with
  | some g => exact (look_mem hm (h.mem_iff.1 (look_some e))).symm
  | none =>
    cases e' : look m id with
    | none => rfl
    | some g => rw [look_mem hd (h.mem_iff.2 (look_some e'))] at e; cases e
/-- A pointer to a node, or none. -/
def ptr (o : Option Nat) : Value := .pointer (o.map fun g => ⟨g, 0, none⟩)
/-- What a pointer reads as. -/
def rd : Value → Option (DataW Nat × List MemPlace)
  | .pointer none => some (.nil, [])
  | .pointer (some ⟨g, 0, none⟩) => some (.held g, [])
  | _ => none
def tok : Option Nat → DataW Nat
  | none => .nil
  | some g => .held g
theorem rd_ptr (o : Option Nat) : rd (ptr o) = some (tok o, []) := by cases o <;> rfl
theorem rd_inv {v : Value} {o : Option Nat} {ps : List MemPlace} (h : rd v = some (tok o, ps)) : v = ptr o := by
  unfold rd at h
  split at h
  · cases o with
    | none => rfl
    | some g => simp [tok] at h
  · rename_i g
    cases o with
    | none => simp [tok] at h
    | some g' =>
      simp only [tok, Option.some.injEq, Prod.mk.injEq, DataW.held.injEq] at h
      rw [h.1]
      rfl
  · cases h
def wfI (id : Int) : Prop := (Lit.int .i64 id).wf = true
/-- A map of ids to nodes lies in a block. -/
structure MapIs (w : World) (b : Nat) (m : List (Int × Nat)) : Prop where
  own : ∃ D : DataW Nat, w.ownsMap Tryd.prog 3 rd b m.length D ∧ (∀ id, D.atKey (.int .i64 id) .nil = tok (look m id)) ∧ (∀ id, has D (.int .i64 id) = (look m id).isSome) ∧ Maps.size D = m.length
  nd : (m.map (·.1)).Nodup
theorem law : Keyed Tryd.prog 3 := int_keyed Tryd.underlying3
theorem zero (w : World) : (zeroValue 58).run Tryd.prog w = .ok (ptr none) w := by kernel_rfl
theorem MapIs.lt {w : World} {b : Nat} {m : List (Int × Nat)} (h : MapIs w b m) : b < w.heap.size := by
  obtain ⟨D, h1, _⟩ := h.own
  exact h1.lt
theorem MapIs.kept {w w' : World} {b : Nat} {m : List (Int × Nat)} (h : MapIs w b m) (hb : w'.heap[b]? = w.heap[b]?) : MapIs w' b m := by
  obtain ⟨D, ⟨es, clock, h1, h2⟩, h3⟩ := h.own
  exact ⟨⟨D, ⟨es, clock, hb.trans h1, h2⟩, h3⟩, h.nd⟩
theorem MapIs.perm {w : World} {b : Nat} {m m' : List (Int × Nat)} (h : MapIs w b m) (hp : m.Perm m') : MapIs w b m' := by
  obtain ⟨D, h1, h2, h3, h4⟩ := h.own
  exact ⟨⟨D, by rw [← hp.length_eq]; exact h1, fun id => by rw [h2, look_perm hp h.nd], fun id => by rw [h3, look_perm hp h.nd], by rw [h4, hp.length_eq]⟩, (hp.map (·.1)).nodup_iff.1 h.nd⟩
theorem made (w : World) : MapIs (w.alloc (.map #[] 0)) w.heap.size [] :=
  ⟨⟨.map [], World.ownsMap_made w _ _ _, fun _ => rfl, fun _ => rfl, rfl⟩, List.nodup_nil⟩
theorem tight {w : World} {b n : Nat} {D : DataW Nat} (h : w.ownsMap Tryd.prog 3 rd b n D) : w.ownsMap Tryd.prog 3 rd b (Maps.size D) D := by
  obtain ⟨es, clock, h1, h2, h3, rfl⟩ := h
  refine ⟨es, clock, h1, h2, ?_, rfl⟩
  simp [Maps.size, length_sorted]
theorem get {w : World} {b : Nat} {m : List (Int × Nat)} (h : MapIs w b m) {id : Int} (hw : wfI id) : (Instr.lookup 62 (.map (some b)) (.int .i64 id) false).run Tryd.prog w = .ok (ptr (look m id)) w := by
  obtain ⟨D, h1, h2, h3⟩ := h.own
  obtain ⟨v, ps, hr, hv⟩ := h1.lookup law Tryd.underlying62 (zero w) (rd_ptr none) (keyOf_int_mk Tryd.underlying3 hw)
  rw [show tok none = DataW.nil from rfl, h2] at hv
  rw [hr, rd_inv hv]
theorem len {w : World} {b : Nat} {m : List (Int × Nat)} (h : MapIs w b m) (ty : TypeId) : (Builtin.len_ #[62] ty #[.map (some b)]).run Tryd.prog w = .ok (.int .i64 (m.length : Int)) w := by
  obtain ⟨D, h1, _, _, h2⟩ := h.own
  rw [h1.len Tryd.underlying62 ty, h2]
theorem lit_ne {i j : Int} (h : i ≠ j) : Lit.int .i64 i ≠ Lit.int .i64 j := by simpa using h
theorem isKey {i : Int} (_ : wfI i) : WideAt.IsKeyLit (.int .i64 i) := by trivial
/-- What a store makes of it: a new id. -/
theorem put {w' : World} {b : Nat} {m : List (Int × Nat)} {D : DataW Nat} {i : Int} {g : Nat} (hD : (∀ id, D.atKey (.int .i64 id) .nil = tok (look m id)) ∧ (∀ id, has D (.int .i64 id) = (look m id).isSome) ∧ Maps.size D = m.length) (nd : (m.map (·.1)).Nodup) (t : Tidy D) (hi : wfI i) (hn : i ∉ m.map (·.1))
    (h : w'.ownsMap Tryd.prog 3 rd b (m.length + 1) (D.put (.int .i64 i) (.held g))) : MapIs w' b ((i, g) :: m) := by
  obtain ⟨h2, h3, h4⟩ := hD
  refine ⟨⟨_, h, fun id => ?_, fun id => ?_, ?_⟩, ?_⟩
  · rw [look]
    by_cases q : i = id
    · subst q
      rw [if_pos rfl, atKey_put_same t.isMap (isKey hi)]
      rfl
    · rw [if_neg q, atKey_put_other (lit_ne (fun e => q e.symm)), h2]
  · rw [look]
    by_cases q : i = id
    · subst q
      rw [if_pos rfl, has_put_same t.isMap (isKey hi)]
      rfl
    · rw [if_neg q, has_put_other (lit_ne (fun e => q e.symm)), h3]
  · rw [size_put t, h3, look_none hn, h4]
    rfl
  · simp only [List.map_cons, List.nodup_cons]
    exact ⟨hn, nd⟩
theorem put_run {w : World} {b : Nat} {m : List (Int × Nat)} (h : MapIs w b m) {i : Int} (hi : wfI i) (hn : i ∉ m.map (·.1)) (hl : m.length < maxLen) (g : Nat) : ∃ w', (Instr.mapUpdate 62 (.map (some b)) (.int .i64 i) (.pointer (some ⟨g, 0, none⟩))).run Tryd.prog w = .ok () w' ∧ MapIs w' b ((i, g) :: m) ∧ w.grownBy w' (some b) := by
  obtain ⟨D, h1, h2⟩ := h.own
  obtain ⟨w', hr, ho, hg⟩ := h1.update (R := rd) law Tryd.underlying62 hl (keyOf_int_mk Tryd.underlying3 hi) (rd_ptr (some g))
  exact ⟨w', hr, put h2 h.nd (h1.tidy law) hi hn ho, hg⟩
theorem look_filter (i : Int) : ∀ (l : List (Int × Nat)) (id : Int), look (l.filter fun p => !decide (p.1 = i)) id = if id = i then none else look l id
  | [], id => by simp [look]
  | (j, g) :: l, id => by
    by_cases q : j = i
    · rw [List.filter_cons_of_neg (by simp [q]), look_filter i l id, look]
      by_cases e : id = i
      · rw [if_pos e, if_pos e]
      · rw [if_neg e, if_neg e, if_neg (fun x => e (by rw [← x, q]))]
    · rw [List.filter_cons_of_pos (by simp [q]), look, look, look_filter i l id]
      by_cases e : id = i
      · rw [if_pos e, if_pos e, if_neg (fun x => q (by rw [x, e]))]
      · rw [if_neg e, if_neg e]
theorem filter_len {i : Int} : ∀ {l : List (Int × Nat)}, (l.map (·.1)).Nodup → (l.filter fun p => !decide (p.1 = i)).length + (if (look l i).isSome then 1 else 0) = l.length
  | [], _ => rfl
  | (j, g) :: l, hd => by
    simp only [List.map_cons, List.nodup_cons] at hd
    have ih := filter_len (i := i) hd.2
    rw [look]
    by_cases q : j = i
    · subst q
      rw [List.filter_cons_of_neg (by simp), if_pos rfl]
      rw [look_none hd.1] at ih
      simp at ih ⊢
      exact ih
    · rw [List.filter_cons_of_pos (by simp [q]), if_neg q, List.length_cons, List.length_cons]
      omega
/-- What a deletion makes of it. -/
theorem del {w' : World} {b n : Nat} {m : List (Int × Nat)} {D : DataW Nat} {i : Int} (hD : (∀ id, D.atKey (.int .i64 id) .nil = tok (look m id)) ∧ (∀ id, has D (.int .i64 id) = (look m id).isSome) ∧ Maps.size D = m.length) (nd : (m.map (·.1)).Nodup) (t : Tidy D)
    (h : w'.ownsMap Tryd.prog 3 rd b n (D.del (.int .i64 i))) : MapIs w' b (m.filter fun p => !decide (p.1 = i)) := by
  obtain ⟨h2, h3, h4⟩ := hD
  have hs : Maps.size (D.del (.int .i64 i)) = (m.filter fun p => !decide (p.1 = i)).length := by
    have e1 := size_del t (k := .int .i64 i)
    have e2 := filter_len (i := i) nd
    rw [h3, h4] at e1
    omega
  refine ⟨⟨_, by rw [← hs]; exact tight h, fun id => ?_, fun id => ?_, hs⟩, ?_⟩
  · rw [look_filter]
    by_cases q : id = i
    · subst q
      rw [if_pos rfl, atKey_del_same]
      rfl
    · rw [if_neg q, atKey_del_other (lit_ne q), h2]
  · rw [look_filter]
    by_cases q : id = i
    · subst q
      rw [if_pos rfl, has_del_same]
      rfl
    · rw [if_neg q, has_del_other (lit_ne q), h3]
  · exact nd.sublist ((List.filter_sublist).map _)
end N
end Go.Proofs.YtidccohjehegjaaDoor
namespace Go.Proofs.YtidccohjehegjaaDoor
open Go.RowKit Go.Shelf
namespace P
def endG (l : List Itm) (z : Int) (to : Nat) : Nat := to + ((l.drop to).takeWhile fun x => decide (z < x.level)).length
theorem endG_yes {l : List Itm} {z : Int} {to : Nat} (h : to < l.length) (hz : z < l[to].level) : endG l z to = endG l z (to + 1) := by
  unfold endG
  rw [List.drop_eq_getElem_cons h, List.takeWhile_cons_of_pos (by simpa using hz)]
  simp
  omega
theorem endG_no {l : List Itm} {z : Int} {to : Nat} (h : to < l.length) (hz : ¬ z < l[to].level) : endG l z to = to := by
  unfold endG
  rw [List.drop_eq_getElem_cons h, List.takeWhile_cons_of_neg (by simpa using hz)]
  simp
theorem endG_end {l : List Itm} {z : Int} {to : Nat} (h : l.length ≤ to) : endG l z to = to := by
  unfold endG
  rw [List.drop_eq_nil_of_le h]
  simp
end P
/-- Attributes lie in memory. -/
def AttrsIn (v : Value) (l : List L.Attr) (w : World) : Prop :=
  ∃ ao cap, v = .slice ao l.length cap ∧ l.length ≤ 9223372036854775807 ∧ (l ≠ [] → ∃ g o, ao = some ⟨g, o, none⟩ ∧ g < w.heap.size ∧ ∀ j (h : j < l.length), w.cell? ⟨g, o + j * 2, none⟩ = some (.string l[j].1) ∧ w.cell? ⟨g, o + j * 2 + 1, none⟩ = some (.string l[j].2))
/-- Items lie in memory. -/
def ItemsIn (V : Value) (l : List IV) (w : World) : Prop :=
  (∃ ao cap, V = .slice ao l.length cap ∧ l.length ≤ 9223372036854775807 ∧ (l ≠ [] → ∃ g o, ao = some ⟨g, o, none⟩ ∧ g < w.heap.size ∧ ∀ j (h : j < l.length), w.cell? ⟨g, o + j * 5, none⟩ = some (.int .i64 l[j].1.level) ∧ w.cell? ⟨g, o + j * 5 + 1, none⟩ = some (.int .i64 l[j].1.kind) ∧ w.cell? ⟨g, o + j * 5 + 2, none⟩ = some (.string l[j].1.name) ∧ w.cell? ⟨g, o + j * 5 + 3, none⟩ = some (.string l[j].1.text) ∧ w.cell? ⟨g, o + j * 5 + 4, none⟩ = some l[j].2)) ∧
  ∀ x ∈ l, AttrsIn x.2 x.1.attrs w
theorem AttrsIn.below {v : Value} {l : List L.Attr} {w w' : World} (h : AttrsIn v l w) (hb : Below w.heap.size w w') : AttrsIn v l w' := by
  obtain ⟨ao, cap, h1, h2, h3⟩ := h
  refine ⟨ao, cap, h1, h2, fun hl => ?_⟩
  obtain ⟨g, o, h4, h5, h6⟩ := h3 hl
  refine ⟨g, o, h4, Nat.lt_of_lt_of_le h5 hb.size, fun j hj => ?_⟩
  obtain ⟨k0, k1⟩ := h6 j hj
  exact ⟨(hb.cell (p := ⟨g, o + j * 2, none⟩) h5).trans k0, (hb.cell (p := ⟨g, o + j * 2 + 1, none⟩) h5).trans k1⟩
theorem ItemsIn.below {V : Value} {l : List IV} {w w' : World} (h : ItemsIn V l w) (hb : Below w.heap.size w w') : ItemsIn V l w' := by
  refine ⟨?_, fun x hx => (h.2 x hx).below hb⟩
  obtain ⟨ao, cap, h1, h2, h3⟩ := h.1
  refine ⟨ao, cap, h1, h2, fun hl => ?_⟩
  obtain ⟨g, o, h4, h5, h6⟩ := h3 hl
  refine ⟨g, o, h4, Nat.lt_of_lt_of_le h5 hb.size, fun j hj => ?_⟩
  obtain ⟨k0, k1, k2, k3, k4⟩ := h6 j hj
  exact ⟨(hb.cell (p := ⟨g, o + j * 5, none⟩) h5).trans k0, (hb.cell (p := ⟨g, o + j * 5 + 1, none⟩) h5).trans k1, (hb.cell (p := ⟨g, o + j * 5 + 2, none⟩) h5).trans k2, (hb.cell (p := ⟨g, o + j * 5 + 3, none⟩) h5).trans k3, (hb.cell (p := ⟨g, o + j * 5 + 4, none⟩) h5).trans k4⟩
theorem encI_at : ∀ (l : List IV) (j : Nat) (hj : j < l.length), (encI l)[j * 5]? = some (.int .i64 l[j].1.level) ∧ (encI l)[j * 5 + 1]? = some (.int .i64 l[j].1.kind) ∧ (encI l)[j * 5 + 2]? = some (.string l[j].1.name) ∧ (encI l)[j * 5 + 3]? = some (.string l[j].1.text) ∧ (encI l)[j * 5 + 4]? = some l[j].2
  | a :: l, 0, _ => by simp [encI, encI1]
  | a :: l, j + 1, hj => by
    have := encI_at l j (by simpa using hj)
    have e1 : (j + 1) * 5 = j * 5 + 1 + 1 + 1 + 1 + 1 := by omega
    simp only [encI, List.flatMap_cons, encI1, List.cons_append, List.nil_append, e1] at *
    simpa using this
theorem attrs_in {base : Nat} {v : Value} {l : List L.Attr} {w : World} (h : w.ownsRow base 79 2 v l.length (encL l)) : AttrsIn v l w := by
  have h0 := h
  rcases h.2 with ⟨rfl, h1⟩ | ⟨g, cap, cur, rfl, hb, hg, h2, h3, _⟩
  · exact ⟨none, 0, by rw [h1], by omega, fun hl => absurd (List.length_eq_zero_iff.1 h1) hl⟩
  · refine ⟨_, _, rfl, by unfold maxLen at h3; omega, fun _ => ⟨g, 0, rfl, lt_of_block hg, fun j hj => ?_⟩⟩
    obtain ⟨e0, e1⟩ := encL_at l j hj
    have c := fun q hq => World.ownsRow.cellAt h0 q hq
    simp only [Nat.zero_add]
    exact ⟨by rw [c _ (by omega)]; exact e0, by rw [c _ (by omega)]; exact e1⟩
theorem items_in {base : Nat} {V : Value} {l : List IV} {w : World} (h : ItmRow base V l w) : ItemsIn V l w := by
  refine ⟨?_, fun x hx => attrs_in (h.2 x hx)⟩
  have h0 := h.1
  rcases h.1.2 with ⟨rfl, h1⟩ | ⟨g, cap, cur, rfl, hb, hg, h2, h3, _⟩
  · exact ⟨none, 0, by rw [h1], by omega, fun hl => absurd (List.length_eq_zero_iff.1 h1) hl⟩
  · refine ⟨_, _, rfl, by unfold maxLen at h3; omega, fun _ => ⟨g, 0, rfl, lt_of_block hg, fun j hj => ?_⟩⟩
    obtain ⟨e0, e1, e2, e3, e4⟩ := encI_at l j hj
    have c := fun q hq => World.ownsRow.cellAt h0 q hq
    simp only [Nat.zero_add]
    exact ⟨by rw [c _ (by omega)]; exact e0, by rw [c _ (by omega)]; exact e1, by rw [c _ (by omega)]; exact e2, by rw [c _ (by omega)]; exact e3, by rw [c _ (by omega)]; exact e4⟩
theorem below_drewN {B : Nat} {a w : World} (h : Below B a w) (m : Nat) : Below B a (w.drewN m) := ⟨h.os, h.tape, h.output, h.size, h.block⟩


end Go.Proofs.YtidccohjehegjaaDoor
namespace Go.Proofs.YtidccohjehegjaaDoor
open Go.RowKit Go.Shelf
namespace N
open T
/-- Where a node lies: its block, its attributes, its kids. -/
structure Slot where
  g : Nat
  av : Value
  kv : Value
abbrev NS := Nd × Slot
def nodeV (e : Nd) (s : Slot) : Array Value := #[.int .i64 e.id, .int .i64 e.par, .int .i64 e.x.kind, .int .i64 0, .string e.x.name, .string e.x.text, s.av, s.kv]
def encK (l : List Int) : List Value := l.map (Value.int .i64)
def blks (s : Slot) : List Nat := s.g :: (s.av.ownBlock.toList ++ s.kv.ownBlock.toList)
structure NodeIn (B : Nat) (e : Nd) (s : Slot) (w : World) : Prop where
  cell : w.heap[s.g]? = some (.cells (nodeV e s) 60 (0, 0))
  attrs : w.ownsRow B 79 2 s.av e.x.attrs.length (encL e.x.attrs)
  kids : w.ownsRow B 3 1 s.kv e.kids.length (encK e.kids)
theorem own_lt {w : World} {B : Nat} {e : TypeId} {size n g : Nat} {v : Value} {xs : List Value} (h : w.ownsRow B e size v n xs) (hg : v.ownBlock = some g) : B ≤ g ∧ g < w.heap.size := by
  rcases h.2 with ⟨rfl, _⟩ | ⟨g', cap, cur, rfl, h1, h2, _⟩
  · cases hg
  · simp only [Value.ownBlock, Option.some.injEq] at hg
    subst hg
    exact ⟨h1, lt_of_block h2⟩
theorem own_same {w w' : World} {B : Nat} {e : TypeId} {size n : Nat} {v : Value} {xs : List Value} (h : w.ownsRow B e size v n xs) (hg : ∀ g, v.ownBlock = some g → w'.heap[g]? = w.heap[g]?) : w'.ownsRow B e size v n xs := by
  refine ⟨h.1, ?_⟩
  rcases h.2 with ⟨rfl, h2⟩ | ⟨g', cap, cur, rfl, h1, h2, h3⟩
  · exact Or.inl ⟨rfl, h2⟩
  · exact Or.inr ⟨g', cap, cur, rfl, h1, (hg g' rfl).trans h2, h3⟩
theorem NodeIn.lt {B : Nat} {e : Nd} {s : Slot} {w : World} (h : NodeIn B e s w) : ∀ b ∈ blks s, b < w.heap.size := by
  intro b hb
  simp only [blks, List.mem_cons, List.mem_append, Option.mem_toList] at hb
  rcases hb with hb | hb | hb
  · rw [hb]; exact lt_of_block h.cell
  · exact (own_lt h.attrs hb).2
  · exact (own_lt h.kids hb).2
theorem NodeIn.same {B : Nat} {e : Nd} {s : Slot} {w w' : World} (h : NodeIn B e s w) (hb : ∀ b ∈ blks s, w'.heap[b]? = w.heap[b]?) : NodeIn B e s w' :=
  ⟨(hb s.g (by simp [blks])).trans h.cell, own_same h.attrs (fun g hg => hb g (by simp [blks, hg])), own_same h.kids (fun g hg => hb g (by simp [blks, hg]))⟩
/-- All blocks of nodes. -/
def allB (L : List NS) : List Nat := L.flatMap fun p => blks p.2
def idg (L : List NS) : List (Int × Nat) := L.map fun p => (p.1.id, p.2.g)
/-- Nodes in memory, and the map of their ids. -/
structure GraphIn (B mb : Nat) (L : List NS) (w : World) : Prop where
  nodes : ∀ p ∈ L, NodeIn B p.1 p.2 w
  nd : (mb :: allB L).Nodup
  ge : ∀ b ∈ mb :: allB L, B ≤ b
  map : MapIs w mb (idg L)
theorem GraphIn.lt {B mb : Nat} {L : List NS} {w : World} (h : GraphIn B mb L w) : ∀ b ∈ mb :: allB L, b < w.heap.size := by
  intro b hb
  rcases List.mem_cons.1 hb with q | q
  · rw [q]; exact h.map.lt
  · simp only [allB, List.mem_flatMap] at q
    obtain ⟨p, hp, hq⟩ := q
    exact (h.nodes p hp).lt b hq
theorem GraphIn.same {B mb : Nat} {L : List NS} {w w' : World} (h : GraphIn B mb L w) (hb : ∀ b ∈ mb :: allB L, w'.heap[b]? = w.heap[b]?) : GraphIn B mb L w' := by
  refine ⟨fun p hp => (h.nodes p hp).same fun b hq => hb b (List.mem_cons_of_mem _ ?_), h.nd, h.ge, h.map.kept (hb mb (List.mem_cons_self ..))⟩
  simp only [allB, List.mem_flatMap]
  exact ⟨p, hp, hq⟩
theorem GraphIn.below {B mb : Nat} {L : List NS} {w w' : World} (h : GraphIn B mb L w) (hb : Below w.heap.size w w') : GraphIn B mb L w' :=
  h.same fun b hq => hb.block b (h.lt b hq)
theorem GraphIn.perm {B mb : Nat} {L L' : List NS} {w : World} (h : GraphIn B mb L w) (hp : L.Perm L') : GraphIn B mb L' w := by
  have ha : (mb :: allB L).Perm (mb :: allB L') := (hp.flatMap_right _).cons _
  exact ⟨fun p hq => h.nodes p (hp.mem_iff.2 hq), ha.nodup_iff.1 h.nd, fun b hb => h.ge b (ha.mem_iff.2 hb), h.map.perm (hp.map _)⟩
/-- The root's id. -/
def rootF : F → Int
  | none => 0
  | some n => n.id
/-- A tree in memory. -/
structure TreeIn (B tb mb : Nat) (f : F) (nx : Int) (L : List NS) (w : World) : Prop where
  graph : GraphIn B mb L w
  ents : (L.map (·.1)).Perm (T.ents f 0)
  top : w.heap[tb]? = some (.cells #[.map (some mb), .int .i64 (rootF f), .int .i64 nx] 64 (0, 0))
  tbB : B ≤ tb
  tb0 : tb ∉ mb :: allB L
theorem TreeIn.same {B tb mb : Nat} {f : F} {nx : Int} {L : List NS} {w w' : World} (h : TreeIn B tb mb f nx L w) (ht : w'.heap[tb]? = w.heap[tb]?) (hb : ∀ b ∈ mb :: allB L, w'.heap[b]? = w.heap[b]?) : TreeIn B tb mb f nx L w' :=
  ⟨h.graph.same hb, h.ents, ht.trans h.top, h.tbB, h.tb0⟩
theorem TreeIn.below {B tb mb : Nat} {f : F} {nx : Int} {L : List NS} {w w' : World} (h : TreeIn B tb mb f nx L w) (hb : Below w.heap.size w w') : TreeIn B tb mb f nx L w' :=
  h.same (hb.block tb (lt_of_block h.top)) fun b hq => hb.block b (h.graph.lt b hq)
/-- The node of an id. -/
theorem TreeIn.find {B tb mb : Nat} {f : F} {nx : Int} {L : List NS} {w : World} (h : TreeIn B tb mb f nx L w) (id : Int) : (id ∉ ids f ∧ look (idg L) id = none) ∨ ∃ e s, (e, s) ∈ L ∧ e ∈ T.ents f 0 ∧ e.id = id ∧ id ∈ ids f ∧ look (idg L) id = some s.g := by
  have hi : ∀ j, j ∈ ids f ↔ j ∈ (idg L).map (·.1) := fun j => by
    rw [← ents_ids f 0, ← (h.ents.map (·.id)).mem_iff]
    simp [idg]
  by_cases q : id ∈ ids f
  · right
    have hm := (hi id).1 q
    simp only [idg, List.map_map, List.mem_map, Function.comp_apply] at hm
    obtain ⟨⟨e, s⟩, hp, rfl⟩ := hm
    exact ⟨e, s, hp, h.ents.mem_iff.1 (List.mem_map.2 ⟨_, hp, rfl⟩), rfl, q, look_mem h.graph.map.nd (List.mem_map.2 ⟨_, hp, rfl⟩)⟩
  · exact Or.inl ⟨q, look_none (fun z => q ((hi id).2 z))⟩
/-- The cells of a tree's own block. -/
theorem TreeIn.cells {B tb mb : Nat} {f : F} {nx : Int} {L : List NS} {w : World} (h : TreeIn B tb mb f nx L w) : w.cell? ⟨tb, 0, none⟩ = some (.map (some mb)) ∧ w.cell? ⟨tb, 1, none⟩ = some (.int .i64 (rootF f)) ∧ w.cell? ⟨tb, 2, none⟩ = some (.int .i64 nx) := by
  refine ⟨?_, ?_, ?_⟩ <;> rw [Lib.cell_of_heap h.top] <;> rfl
theorem NodeIn.cells {B : Nat} {e : Nd} {s : Slot} {w : World} (h : NodeIn B e s w) : w.cell? ⟨s.g, 0, none⟩ = some (.int .i64 e.id) ∧ w.cell? ⟨s.g, 1, none⟩ = some (.int .i64 e.par) ∧ w.cell? ⟨s.g, 2, none⟩ = some (.int .i64 e.x.kind) ∧ w.cell? ⟨s.g, 3, none⟩ = some (.int .i64 0) ∧ w.cell? ⟨s.g, 4, none⟩ = some (.string e.x.name) ∧ w.cell? ⟨s.g, 5, none⟩ = some (.string e.x.text) ∧ w.cell? ⟨s.g, 6, none⟩ = some s.av ∧ w.cell? ⟨s.g, 7, none⟩ = some s.kv := by
  refine ⟨?_, ?_, ?_, ?_, ?_, ?_, ?_, ?_⟩ <;> rw [Lib.cell_of_heap h.cell] <;> rfl
end N
end Go.Proofs.YtidccohjehegjaaDoor
namespace Go.Proofs.YtidccohjehegjaaDoor
open Go.RowKit Go.Shelf
namespace N
open T
theorem allB_app (L M : List NS) : allB (L ++ M) = allB L ++ allB M := List.flatMap_append
theorem allB_cons (p : NS) (L : List NS) : allB (p :: L) = blks p.2 ++ allB L := List.flatMap_cons
theorem idg_app (L M : List NS) : idg (L ++ M) = idg L ++ idg M := List.map_append
section
variable {B mb : Nat} {X X' : World}
/-- A node turned, its block and its id as they were. -/
theorem graph_turn {L1 L2 : List NS} {e e' : Nd} {s s' : Slot} (h : GraphIn B mb (L1 ++ (e, s) :: L2) X) (hk : ∀ b, b < X.heap.size → b ∉ blks s → X'.heap[b]? = X.heap[b]?) (hn : NodeIn B e' s' X')
    (hs : ∀ b ∈ blks s', b ∈ blks s ∨ X.heap.size ≤ b) (hnd : (blks s').Nodup) (hB : ∀ b ∈ blks s', B ≤ b) (hid : e'.id = e.id) (hg : s'.g = s.g) : GraphIn B mb (L1 ++ (e', s') :: L2) X' := by
  have hlt := h.lt
  have hnd0 := h.nd
  rw [allB_app, allB_cons] at hnd0 hlt
  simp only [List.nodup_cons, List.mem_append, not_or] at hnd0
  obtain ⟨⟨m1, m2, m3⟩, hn2⟩ := hnd0
  rw [List.nodup_append] at hn2
  obtain ⟨n1, n2, n3⟩ := hn2
  rw [List.nodup_append] at n2
  obtain ⟨n4, n5, n6⟩ := n2
  have out : ∀ b ∈ mb :: (allB L1 ++ allB L2), b ∉ blks s := by
    intro b hb hq
    simp only [List.mem_cons, List.mem_append] at hb
    rcases hb with hb | hb | hb
    · exact m2 (hb ▸ hq)
    · exact n3 b hb b (List.mem_append_left _ hq) rfl
    · exact n6 b hq b hb rfl
  have old : ∀ b ∈ mb :: (allB L1 ++ allB L2), b < X.heap.size := by
    intro b hb
    simp only [List.mem_cons, List.mem_append] at hb
    exact hlt b (by simp only [List.mem_cons, List.mem_append]; rcases hb with hb | hb | hb <;> simp [hb])
  have same : ∀ b ∈ mb :: (allB L1 ++ allB L2), X'.heap[b]? = X.heap[b]? := fun b hb => hk b (old b hb) (out b hb)
  refine ⟨fun p hp => ?_, ?_, fun b hb => ?_, ?_⟩
  · rw [List.mem_append, List.mem_cons] at hp
    rcases hp with hp | hp | hp
    · exact (h.nodes p (List.mem_append_left _ hp)).same fun b hb => same b (by simp only [List.mem_cons, List.mem_append]; exact Or.inr (Or.inl (List.mem_flatMap.2 ⟨p, hp, hb⟩)))
    · rw [hp]; exact hn
    · exact (h.nodes p (List.mem_append_right _ (List.mem_cons_of_mem _ hp))).same fun b hb => same b (by simp only [List.mem_cons, List.mem_append]; exact Or.inr (Or.inr (List.mem_flatMap.2 ⟨p, hp, hb⟩)))
  · rw [allB_app, allB_cons]
    have new : ∀ b ∈ blks s', b ∉ mb :: (allB L1 ++ allB L2) := by
      intro b hb hq
      rcases hs b hb with r | r
      · exact out b hq r
      · have := old b hq; omega
    simp only [List.nodup_cons, List.mem_append, not_or]
    refine ⟨⟨m1, fun q => new mb q (List.mem_cons_self ..), m3⟩, ?_⟩
    rw [List.nodup_append]
    refine ⟨n1, ?_, fun a ha b hb => ?_⟩
    · rw [List.nodup_append]
      exact ⟨hnd, n5, fun a ha b hb q => new a ha (by rw [q]; simp [hb])⟩
    · rcases List.mem_append.1 hb with r | r
      · intro q; exact new b r (by rw [← q]; simp [ha])
      · exact n3 a ha b (List.mem_append_right _ r)
  · rw [allB_app, allB_cons] at hb
    simp only [List.mem_cons, List.mem_append] at hb
    have hge := h.ge
    rw [allB_app, allB_cons] at hge
    simp only [List.mem_cons, List.mem_append] at hge
    rcases hb with hb | hb | hb | hb
    · exact hge b (Or.inl hb)
    · exact hge b (Or.inr (Or.inl hb))
    · exact hB b hb
    · exact hge b (Or.inr (Or.inr (Or.inr hb)))
  · have e1 : idg (L1 ++ (e', s') :: L2) = idg (L1 ++ (e, s) :: L2) := by simp [idg, hid, hg]
    rw [e1]
    exact h.map.kept (same mb (List.mem_cons_self ..))
/-- One more node. -/
theorem graph_new {L : List NS} {e : Nd} {s : Slot} (h : GraphIn B mb L X) (hk : ∀ b, b < X.heap.size → b ≠ mb → X'.heap[b]? = X.heap[b]?) (hn : NodeIn B e s X') (hs : ∀ b ∈ blks s, X.heap.size ≤ b) (hnd : (blks s).Nodup) (hB : B ≤ X.heap.size) (hm : MapIs X' mb ((e.id, s.g) :: idg L)) : GraphIn B mb (L ++ [(e, s)]) X' := by
  have hlt := h.lt
  have hnd0 := h.nd
  simp only [List.nodup_cons] at hnd0
  refine ⟨fun p hp => ?_, ?_, fun b hb => ?_, ?_⟩
  · rcases List.mem_append.1 hp with q | q
    · refine (h.nodes p q).same fun b hb => ?_
      have hq : b ∈ allB L := List.mem_flatMap.2 ⟨p, q, hb⟩
      exact hk b (hlt b (List.mem_cons_of_mem _ hq)) (fun r => hnd0.1 (r ▸ hq))
    · simp only [List.mem_singleton] at q
      rw [q]; exact hn
  · have e1 : allB (L ++ [(e, s)]) = allB L ++ blks s := by rw [allB_app, allB_cons]; simp [allB]
    rw [e1]
    simp only [List.nodup_cons, List.mem_append, not_or]
    refine ⟨⟨hnd0.1, fun q => ?_⟩, ?_⟩
    · have := hs mb q; have := hlt mb (List.mem_cons_self ..); omega
    · rw [List.nodup_append]
      refine ⟨hnd0.2, hnd, fun a ha b hb q => ?_⟩
      have := hs b hb
      have := hlt a (List.mem_cons_of_mem _ ha)
      omega
  · have e1 : allB (L ++ [(e, s)]) = allB L ++ blks s := by rw [allB_app, allB_cons]; simp [allB]
    rw [e1] at hb
    simp only [List.mem_cons, List.mem_append] at hb
    rcases hb with hb | hb | hb
    · exact h.ge b (by simp [hb])
    · exact h.ge b (by simp [hb])
    · exact Nat.le_trans hB (hs b hb)
  · have e1 : idg (L ++ [(e, s)]) = idg L ++ [(e.id, s.g)] := by rw [idg_app]; rfl
    rw [e1]
    exact hm.perm (List.perm_append_comm (l₁ := [(e.id, s.g)]) (l₂ := idg L))
end
end N
end Go.Proofs.YtidccohjehegjaaDoor
namespace Go.Proofs.YtidccohjehegjaaDoor
open Go.RowKit Go.Shelf
theorem N.infoA : (Tryd.prog.info? 79).map (fun i => (i.zero, i.size, i.bytes)) = some (some (.agg #[.string ⟨#[]⟩, .string ⟨#[]⟩]), 2, 32) := by kernel_rfl
/-- The cells of attributes, wherever they lie. -/
theorem N.attr_cells {v : Value} {l : List L.Attr} {w : World} (h : AttrsIn v l w) (hne : l ≠ []) : ∃ g o cap, v = .slice (some ⟨g, o, none⟩) l.length cap ∧ g < w.heap.size ∧ ∀ j u, (encL l)[j]? = some u → w.cell? ((⟨g, o, none⟩ : Addr).add j) = some u := by
  obtain ⟨ao, cap, rfl, hl, hc⟩ := h
  obtain ⟨g, o, rfl, hg, hc⟩ := hc hne
  refine ⟨g, o, cap, rfl, hg, fun j u hu => ?_⟩
  rw [Addr.add_lit]
  have hj : j < l.length * 2 := by
    rcases Nat.lt_or_ge j (l.length * 2) with q | q
    · exact q
    · rw [List.getElem?_eq_none (by rw [encL_length]; exact q)] at hu; cases hu
  obtain ⟨q, r, hr, rfl⟩ : ∃ q r, r < 2 ∧ j = q * 2 + r := ⟨j / 2, j % 2, Nat.mod_lt _ (by decide), by omega⟩
  have hq : q < l.length := by omega
  obtain ⟨k0, k1⟩ := hc q hq
  have e0 := encL_at l q hq
  rcases (show r = 0 ∨ r = 1 by omega) with rfl | rfl
  · rw [Nat.add_zero] at hu ⊢
    rw [e0.1, Option.some.injEq] at hu
    rw [k0, hu]
  · rw [e0.2, Option.some.injEq] at hu
    rw [← Nat.add_assoc, k1, hu]
set_option maxRecDepth 100000 in
theorem N.own_any (v : Value) (l : List L.Attr) (w : World) (h : Hid (AttrsIn v l w)) (hs : l.length * 32 ≤ 140737488355328) :
    Calls Tryd.prog 29 #[v] w fun r w' => ∃ v', r = .returned v' ∧ w'.ownsRow w.heap.size 79 2 v' l.length (encL l) ∧ Below w.heap.size w w' := by
  obtain ⟨i0, I0, I1, I2, I3⟩ := info_parts N.infoA
  by_cases h0 : l = []
  · subst h0
    obtain ⟨ao, cap, rfl, hl, hc⟩ := h.out
    clear hc
    simp only [List.length_nil] at *
    go_enter Tryd.func29, Tryd.ntmps29
    cases ao
    · go_wp2
      go_ret
      exact ⟨_, rfl, ⟨by simp [encL], Or.inl ⟨rfl, rfl⟩⟩, Below.refl _ _⟩
    · go_wp2
      go_ret
      exact ⟨_, rfl, ⟨by simp [encL], Or.inl ⟨rfl, rfl⟩⟩, Below.refl _ _⟩
  · have hpos : 0 < l.length := List.length_pos_iff.2 h0
    obtain ⟨g, o, cap, rfl, hg, hc⟩ := N.attr_cells h.out h0
    have HC := hid hc
    have HEL := hid (encL_length l)
    have HON : Hid (∀ u ∈ encL l, u.oneCell' = true) := hid (fun u hu => by
      simp only [encL, encA, List.mem_flatMap] at hu
      obtain ⟨a, _, hu⟩ := hu
      simp only [List.mem_cons, List.not_mem_nil, or_false] at hu
      rcases hu with rfl | rfl <;> rfl)
    have HM : Hid (0 + l.length ≤ maxLen ∧ (0 + l.length) * 32 ≤ 140737488355328) := hid (by unfold maxLen; omega)
    clear hc
    go_enter Tryd.func29, Tryd.ntmps29
    go_wp2_with (at_builtin; refine wpList_append_lies _ rfl (.const (.slice none 0 0)) (.tmp 3) 38 rfl w.heap.size 79 i0 (.agg #[.string ⟨#[]⟩, .string ⟨#[]⟩]) 2 32 Tryd.underlying38 I0 I1 I2 I3 rfl (by decide) _ 0 [] rfl ⟨by simp, Or.inl ⟨rfl, rfl⟩⟩ ⟨g, o, none⟩ l.length cap (encL l) rfl HEL.out HC.out HON.out hpos HM.out.1 HM.out.2 (Nat.le_refl _) _ rfl ?_)
    intro g' cap' w' hown hgrow _ _
    have H1 := hid hown
    have H2 := hid ((Below.refl w.heap.size w).grown hgrow (Nat.le_refl _) (fun k hk => by cases hk))
    clear hown hgrow
    go_wp2
    go_ret
    exact ⟨_, rfl, H1.out, H2.out⟩
end Go.Proofs.YtidccohjehegjaaDoor
namespace Go.Proofs.YtidccohjehegjaaDoor
open Go.RowKit Go.Shelf
namespace N
theorem step_calls {P : Program} {ops : Array Oper} {o : Oper} {a : Act} {w : World} {K : Act → World → Prop} {Q : Exit → Act → World → Prop} {E : Prop}
    (hg : o.guard = none) (n : FuncId) (xs : Array Operand) (ts : Array TypeId) (hop : o.op = Op.call { callee := Callee.value (Operand.func n), args := xs, argTypes := ts })
    (eg : ∀ args w, (callFunc n args).run P w = .ok (.enter n args) w) (vs : Array Value) (hx : xs.map a.eval = vs) (R : Value → World → Prop) (hC : Calls P n vs w fun e w' => ∃ v, e = .returned v ∧ R v w') (hK : ∀ v w', R v w' → K (a.put o.dst v) w') :
    if Region.wanted o (yielded ops a.tmps) = true then Oper.wp P o a w K Q else E := by
  have hw : Region.wanted o (yielded ops a.tmps) = true := by simp [Region.wanted, hg]
  rw [if_pos hw]
  subst hx
  unfold Oper.wp
  simp [execOp, hop, resolve, invoke, Deferred.ofValue, eg, Act.eval]
  rw [Oper.upon_enter]
  refine hC.mono ?_
  rintro e w' ⟨v, rfl, hr⟩
  exact hK v w' hr
theorem step_calls1 {P : Program} {ops : Array Oper} {o : Oper} {a : Act} {w : World} {K : Act → World → Prop} {Q : Exit → Act → World → Prop} {E : Prop}
    (hg : o.guard = none) (n : FuncId) (x : Operand) (ts : Array TypeId) (hop : o.op = Op.call { callee := Callee.value (Operand.func n), args := #[x], argTypes := ts })
    (eg : ∀ args w, (callFunc n args).run P w = .ok (.enter n args) w) (v : Value) (hx : a.eval x = v) (R : Value → World → Prop) (hC : Calls P n #[v] w fun e w' => ∃ v, e = .returned v ∧ R v w') (hK : ∀ v w', R v w' → K (a.put o.dst v) w') :
    if Region.wanted o (yielded ops a.tmps) = true then Oper.wp P o a w K Q else E :=
  step_calls hg n #[x] ts hop eg #[v] (by simp [hx]) R hC hK
theorem step_load {P : Program} {ops : Array Oper} {o : Oper} {a : Act} {w : World} {K : Act → World → Prop} {Q : Exit → Act → World → Prop} {E : Prop}
    (hg : o.guard = none) (t : TypeId) (x : Operand) (hop : o.op = Op.load t x) (va v : Value) (hx : a.eval x = va) (hr : (Instr.loadAt t va).run P w = .ok v w) (hK : K (a.put o.dst v) w) :
    if Region.wanted o (yielded ops a.tmps) = true then Oper.wp P o a w K Q else E := by
  have hw : Region.wanted o (yielded ops a.tmps) = true := by simp [Region.wanted, hg]
  rw [if_pos hw]
  unfold Oper.wp
  simp [execOp, hop, hx, hr, Result.andThen]
  exact hK
theorem step_store {P : Program} {ops : Array Oper} {o : Oper} {a : Act} {w w' : World} {K : Act → World → Prop} {Q : Exit → Act → World → Prop} {E : Prop}
    (hg : o.guard = none) (t : TypeId) (x y : Operand) (hop : o.op = Op.store t x y) (va v : Value) (hx : a.eval x = va) (hy : a.eval y = v) (hr : (Instr.storeAt t va v).run P w = .ok () w') (hK : K (a.put o.dst undef) w') :
    if Region.wanted o (yielded ops a.tmps) = true then Oper.wp P o a w K Q else E := by
  have hw : Region.wanted o (yielded ops a.tmps) = true := by simp [Region.wanted, hg]
  rw [if_pos hw]
  unfold Oper.wp
  simp [execOp, hop, hx, hy, hr, Result.andThen]
  unfold Oper.upon
  exact hK
set_option maxHeartbeats 400000 in
theorem load_tree3 {w : World} {t : Nat} {m a b : Value} (c0 : w.cell? ⟨t, 0, none⟩ = some m) (c1 : w.cell? ⟨t, 1, none⟩ = some a) (c2 : w.cell? ⟨t, 2, none⟩ = some b) : (Instr.loadAt 64 (.pointer (some ⟨t, 0, none⟩))).run Tryd.prog w = .ok (.agg #[m, a, b]) w := by
  simp [Instr.loadAt, go_sem, c0, c1, c2]
set_option maxHeartbeats 400000 in
theorem store_tree3 {w : World} {t mb : Nat} {a b : Int} {m0 a0 b0 : Value} (h : w.heap[t]? = some (.cells #[m0, a0, b0] 64 (0, 0))) : (Instr.storeAt 64 (.pointer (some ⟨t, 0, none⟩)) (.agg #[.map (some mb), .int .i64 a, .int .i64 b])).run Tryd.prog w = .ok () (((w.setCell ⟨t, 0, none⟩ (.map (some mb))).setCell ⟨t, 1, none⟩ (.int .i64 a)).setCell ⟨t, 2, none⟩ (.int .i64 b)) := by
  have c0 : w.cell? ⟨t, 0, none⟩ = some m0 := by rw [Lib.cell_of_heap h]; rfl
  have c1 : w.cell? ⟨t, 1, none⟩ = some a0 := by rw [Lib.cell_of_heap h]; rfl
  have c2 : w.cell? ⟨t, 2, none⟩ = some b0 := by rw [Lib.cell_of_heap h]; rfl
  have f0 : w.frozen? ⟨t, 0, none⟩ = false := Lib.frozen_of_heap h 0
  have f1 : w.frozen? ⟨t, 1, none⟩ = false := Lib.frozen_of_heap h 1
  have f2 : w.frozen? ⟨t, 2, none⟩ = false := Lib.frozen_of_heap h 2
  simp [Instr.storeAt, go_sem, c0, c1, c2, f0, f1, f2]
end N
end Go.Proofs.YtidccohjehegjaaDoor
namespace Go.Proofs.YtidccohjehegjaaDoor
open Go.RowKit Go.Shelf
namespace N
open T
theorem grow (w : World) (o : Obj) : Below w.heap.size w (w.alloc o) := (Below.refl _ _).alloc (Nat.le_refl _) o
theorem infoInt : (Tryd.prog.info? 3).map (fun i => (i.zero, i.size, i.bytes)) = some (some (.int .i64 0), 1, 8) := by kernel_rfl
theorem gb_below {w w' : World} {row : Option Nat} (hb : Below w.heap.size w w') : w.grownBy w' row := ⟨hb.os, hb.tape, hb.output, hb.size, fun k hk _ => hb.block k hk⟩
theorem slice_of {w : World} {B : Nat} {e : TypeId} {size n : Nat} {v : Value} {xs : List Value} (h : w.ownsRow B e size v n xs) : ∃ a c, v = .slice a n c := by
  rcases h.2 with ⟨h0, hz⟩ | ⟨g, cap, cur, h0, _⟩
  · exact ⟨none, 0, by rw [h0, hz]⟩
  · exact ⟨_, _, h0⟩
/-- Integers in memory, whoever laid them. -/
def IntsIn (V : Value) (l : List Int) (w : World) : Prop :=
  ∃ a c, V = .slice a l.length c ∧ l.length ≤ 9223372036854775807 ∧ (l ≠ [] → ∃ g o, a = some ⟨g, o, none⟩ ∧ g < w.heap.size ∧ ∀ j (h : j < l.length), w.cell? ⟨g, o + j, none⟩ = some (.int .i64 l[j]))
/-- A row of integers of the call's own. -/
def IntRow (base : Nat) (V : Value) (l : List Int) (w : World) : Prop := w.ownsRow base 3 1 V l.length (encK l)
theorem IntRow.cells {base : Nat} {V : Value} {l : List Int} {w : World} (h : IntRow base V l w) (hne : l ≠ []) : ∃ g cap, V = .slice (some ⟨g, 0, none⟩) l.length cap ∧ base ≤ g ∧ g < w.heap.size ∧ l.length ≤ cap ∧ ∀ j (hj : j < l.length), w.cell? ⟨g, j, none⟩ = some (.int .i64 l[j]) := by
  have hpos : 0 < l.length := List.length_pos_iff.2 hne
  rcases h.2 with ⟨_, hz⟩ | ⟨g, cap, cur, h0, h1, h2, h3, h4, h5, h6⟩
  · omega
  · refine ⟨g, cap, h0, h1, lt_of_block h2, h3, fun j hj => ?_⟩
    rw [Lib.cell_of_heap h2, ← Array.getElem?_toList]
    have q : (encK l)[j]? = some (.int .i64 l[j]) := by unfold encK; rw [List.getElem?_map, List.getElem?_eq_getElem hj]; rfl
    rw [← h6, List.getElem?_take] at q
    split at q
    · exact q
    · cases q
theorem IntRow.form {base : Nat} {V : Value} {l : List Int} {w : World} (h : IntRow base V l w) : ∃ a c, V = .slice a l.length c := by
  rcases h.2 with ⟨h0, hz⟩ | ⟨g, cap, cur, h0, _⟩
  · exact ⟨none, 0, by rw [h0, hz]⟩
  · exact ⟨_, _, h0⟩
theorem IntRow.same {base : Nat} {V : Value} {l : List Int} {w w' : World} (h : IntRow base V l w) (hb : ∀ g, V.ownBlock = some g → w'.heap[g]? = w.heap[g]?) : IntRow base V l w' := own_same h hb
/-- A cell stays where a map alone is written. -/
theorem cell_keep {w X : World} {mb : Nat} (h : w.grownBy X (some mb)) {es : Array MapEntry} {cl : Nat} (hm : w.heap[mb]? = some (.map es cl)) {a : Addr} {v : Value} (hv : w.cell? a = some v) : X.cell? a = some v := by
  unfold World.cell? at hv ⊢
  have hlt : a.block < w.heap.size := by
    rcases Nat.lt_or_ge a.block w.heap.size with q | q
    · exact q
    · rw [Array.getElem?_eq_none q] at hv; cases hv
  have hne : some a.block ≠ some mb := by
    intro q
    simp only [Option.some.injEq] at q
    rw [q, hm] at hv
    cases hv
  rw [h.block a.block hlt hne]
  exact hv
/-- What plant works with behind some rounds. -/
structure PL (B mb : Nat) (L0 : List NS) (R : List Row) (par : Int) (w : World) (k : Nat) (Lk : List NS) (v9 v10 : Value) (X : World) : Prop where
  made : Lk.map (·.1) = (laidP par R k).l
  top : IntRow w.heap.size v9 (laidP par R k).top X
  ab : IntRow w.heap.size v10 (laidP par R k).ab X
  graph : GraphIn B mb (L0 ++ Lk) X
  new : ∀ b ∈ allB Lk, w.heap.size ≤ b
  apart : v9.ownBlock = none ∨ v9.ownBlock ≠ v10.ownBlock
  out9 : ∀ g, v9.ownBlock = some g → g ∉ mb :: allB (L0 ++ Lk)
  out10 : ∀ g, v10.ownBlock = some g → g ∉ mb :: allB (L0 ++ Lk)
  keep : w.grownBy X (some mb)
theorem attrs_keep {v : Value} {l : List L.Attr} {w X : World} {mb : Nat} (h : AttrsIn v l w) (hk : w.grownBy X (some mb)) {es : Array MapEntry} {cl : Nat} (hm : w.heap[mb]? = some (.map es cl)) : AttrsIn v l X := by
  obtain ⟨a, c, rfl, h1, h2⟩ := h
  refine ⟨a, c, rfl, h1, fun hne => ?_⟩
  obtain ⟨g, o, rfl, hg, hc⟩ := h2 hne
  exact ⟨g, o, rfl, Nat.lt_of_lt_of_le hg hk.size, fun j hj => ⟨cell_keep hk hm (hc j hj).1, cell_keep hk hm (hc j hj).2⟩⟩
theorem PL.below {B mb : Nat} {L0 : List NS} {R : List Row} {par : Int} {w : World} {k : Nat} {Lk : List NS} {v9 v10 : Value} {X X' : World} (h : PL B mb L0 R par w k Lk v9 v10 X) (hb : Below X.heap.size X X') : PL B mb L0 R par w k Lk v9 v10 X' :=
  ⟨h.made, h.top.same fun g hg => hb.block g (own_lt h.top hg).2, h.ab.same fun g hg => hb.block g (own_lt h.ab hg).2, h.graph.below hb, h.new, h.apart, h.out9, h.out10,
    ⟨hb.os.trans h.keep.os, hb.tape.trans h.keep.tape, hb.output.trans h.keep.output, Nat.le_trans h.keep.size hb.size, fun j hj hne => (hb.block j (Nat.lt_of_lt_of_le hj h.keep.size)).trans (h.keep.block j hj hne)⟩⟩
/-- .. behind the node that is laid, ahead of its parent's turn. -/
structure PM (B mb : Nat) (L0 : List NS) (R : List Row) (par : Int) (w : World) (k : Nat) (Lk : List NS) (e : Nd) (s : Slot) (ib : Nat) (it : Array Value) (v9 v10 : Value) (X : World) : Prop where
  made : Lk.map (·.1) = (laidP par R k).l
  top : IntRow w.heap.size v9 (laidP par R k).top X
  ab : IntRow w.heap.size v10 (laidP par R k).ab X
  graph : GraphIn B mb (L0 ++ (Lk ++ [(e, s)])) X
  new : ∀ b ∈ allB (Lk ++ [(e, s)]), w.heap.size ≤ b
  apart : v9.ownBlock = none ∨ v9.ownBlock ≠ v10.ownBlock
  out9 : ∀ g, v9.ownBlock = some g → g ∉ ib :: mb :: allB (L0 ++ (Lk ++ [(e, s)]))
  out10 : ∀ g, v10.ownBlock = some g → g ∉ ib :: mb :: allB (L0 ++ (Lk ++ [(e, s)]))
  keep : w.grownBy X (some mb)
  item : X.heap[ib]? = some (.cells it 49 (0, 0))
  ibw : w.heap.size ≤ ib ∧ ib ∉ mb :: allB (L0 ++ (Lk ++ [(e, s)]))
theorem mid {B mb : Nat} {L0 : List NS} {R : List Row} {par : Int} {w : World} {k : Nat} {Lk : List NS} {v9 v10 : Value} {X w5 : World} {ib : Nat} {it : Array Value} {va : Option Addr} {vc : Nat} {ats : List L.Attr} {kd idk pi : Int} {nm tx : ByteArray}
    (h : PL B mb L0 R par w k Lk v9 v10 X) (hitem : X.heap[ib]? = some (.cells it 49 (0, 0))) (hib : w.heap.size ≤ ib) (hib9 : ∀ g, v9.ownBlock = some g → g ≠ ib) (hib10 : ∀ g, v10.ownBlock = some g → g ≠ ib) (hibL : ib ∉ mb :: allB (L0 ++ Lk)) (b5 : Below X.heap.size X w5) (o5 : w5.ownsRow X.heap.size 79 2 (.slice va ats.length vc) ats.length (encL ats))
    (hi : wfI idk) (hfr : idk ∉ (idg (L0 ++ Lk)).map (·.1)) (hl : (L0 ++ Lk).length < maxLen) :
    ∃ w6, (Instr.mapUpdate 62 (.map (some mb)) (.int .i64 idk) (.pointer (some ⟨w5.heap.size, 0, none⟩))).run Tryd.prog (w5.alloc (.cells #[.int .i64 idk, .int .i64 pi, .int .i64 kd, .int .i64 0, .string nm, .string tx, .slice va ats.length vc, .slice none 0 0] 60)) = .ok () w6 ∧
      PM B mb L0 R par w k Lk ⟨idk, pi, ⟨0, kd, nm, tx, ats⟩, []⟩ ⟨w5.heap.size, .slice va ats.length vc, .slice none 0 0⟩ ib it v9 v10 w6 ∧ X.grownBy w6 (some mb) := by
  have bA := grow w5 (.cells #[.int .i64 idk, .int .i64 pi, .int .i64 kd, .int .i64 0, .string nm, .string tx, .slice va ats.length vc, .slice none 0 0] 60)
  have nA := heap_alloc_new w5 (.cells #[.int .i64 idk, .int .i64 pi, .int .i64 kd, .int .i64 0, .string nm, .string tx, .slice va ats.length vc, .slice none 0 0] 60)
  generalize w5.alloc (.cells #[.int .i64 idk, .int .i64 pi, .int .i64 kd, .int .i64 0, .string nm, .string tx, .slice va ats.length vc, .slice none 0 0] 60) = wA at bA nA ⊢
  have hA : Below X.heap.size X wA := b5.trans (bA.mono b5.size)
  have hmb := h.graph.map.lt
  obtain ⟨w6, hr, hm6, hg6⟩ := put_run (h.graph.map.kept (hA.block mb hmb)) hi hfr (by simpa [idg] using hl) w5.heap.size
  have hXA := hA.size
  have h5X := b5.size
  have hwX := h.keep.size
  have hn5 := lt_of_block nA
  -- blocks behind the store
  have blk6 : ∀ b, b < wA.heap.size → b ≠ mb → w6.heap[b]? = wA.heap[b]? := fun b hb hne => hg6.block b hb (fun q => hne (by simpa using q))
  have old6 : ∀ b, b < X.heap.size → b ≠ mb → w6.heap[b]? = X.heap[b]? := fun b hb hne => (blk6 b (by omega) hne).trans (hA.block b hb)
  have hvb : ∀ g, (Value.slice va ats.length vc).ownBlock = some g → X.heap.size ≤ g ∧ g < w5.heap.size := fun g hg => own_lt o5 hg
  have hn : NodeIn B ⟨idk, pi, ⟨0, kd, nm, tx, ats⟩, []⟩ ⟨w5.heap.size, .slice va ats.length vc, .slice none 0 0⟩ w6 := by
    have hBm := h.graph.ge mb (List.mem_cons_self ..)
    refine ⟨(blk6 _ hn5 (by omega)).trans nA, ?_, ⟨by simp [encK], Or.inl ⟨rfl, rfl⟩⟩⟩
    have o6 : w6.ownsRow X.heap.size 79 2 (.slice va ats.length vc) ats.length (encL ats) := own_same o5 (fun g hg => by
      have := hvb g hg
      exact (blk6 g (by omega) (by omega)).trans (bA.block g this.2))
    refine ⟨o6.1, ?_⟩
    rcases o6.2 with q | ⟨g, c, cur, h0, q1, q2⟩
    · exact Or.inl q
    · exact Or.inr ⟨g, c, cur, h0, by omega, q2⟩
  have hs : ∀ b ∈ blks ⟨w5.heap.size, .slice va ats.length vc, .slice none 0 0⟩, X.heap.size ≤ b := by
    intro b hb
    simp only [blks, List.mem_cons, List.mem_append, Option.mem_toList] at hb
    rcases hb with hb | hb | hb
    · omega
    · exact (hvb b hb).1
    · cases hb
  have hnd : (blks ⟨w5.heap.size, .slice va ats.length vc, .slice none 0 0⟩).Nodup := by
    show (w5.heap.size :: ((Value.slice va ats.length vc).ownBlock.toList ++ (Value.slice none 0 0).ownBlock.toList)).Nodup
    rw [show (Value.slice none 0 0).ownBlock = none from rfl]
    cases hv : (Value.slice va ats.length vc).ownBlock with
    | none => simp
    | some g =>
      have := hvb g hv
      simp only [Option.toList_some, Option.toList_none, List.append_nil, List.nodup_cons, List.mem_singleton, List.not_mem_nil, not_false_iff, List.nodup_nil, and_true]
      omega
  have hB : B ≤ X.heap.size := by have := h.graph.ge mb (List.mem_cons_self ..); omega
  have hgr := graph_new h.graph old6 hn hs hnd hB hm6
  rw [List.append_assoc] at hgr
  have hb9 : ∀ g, v9.ownBlock = some g → w.heap.size ≤ g ∧ g < X.heap.size := fun g hg => own_lt h.top hg
  have hb10 : ∀ g, v10.ownBlock = some g → w.heap.size ≤ g ∧ g < X.heap.size := fun g hg => own_lt h.ab hg
  have hall : ∀ b, b ∈ mb :: allB (L0 ++ (Lk ++ [(⟨idk, pi, ⟨0, kd, nm, tx, ats⟩, []⟩, ⟨w5.heap.size, .slice va ats.length vc, .slice none 0 0⟩)])) → b ∈ mb :: allB (L0 ++ Lk) ∨ X.heap.size ≤ b := by
    intro b hb
    rw [← List.append_assoc, allB_app, allB_cons] at hb
    simp only [List.mem_cons, List.mem_append] at hb
    rcases hb with hb | hb | hb | hb
    · exact Or.inl (by simp [hb])
    · exact Or.inl (List.mem_cons_of_mem _ hb)
    · exact Or.inr (hs b hb)
    · simp [allB] at hb
  have hibX := lt_of_block hitem
  refine ⟨w6, hr, ⟨h.made, h.top.same (fun g hg => old6 g (hb9 g hg).2 ?_), h.ab.same (fun g hg => old6 g (hb10 g hg).2 ?_), hgr, fun b hb => ?_, h.apart, fun g hg => ?_, fun g hg => ?_, ?_, (old6 ib hibX (fun q => hibL (by rw [q]; exact List.mem_cons_self ..))).trans hitem, hib, fun q => ?_⟩, hg6.os.trans hA.os, hg6.tape.trans hA.tape, hg6.output.trans hA.output, by have := hg6.size; omega, fun b hb hne => old6 b hb (fun r => hne (by rw [r]))⟩
  · exact fun q => h.out9 g hg (by rw [q]; exact List.mem_cons_self ..)
  · exact fun q => h.out10 g hg (by rw [q]; exact List.mem_cons_self ..)
  · rw [allB_app, allB_cons] at hb
    simp only [List.mem_append] at hb
    rcases hb with hb | hb | hb
    · exact h.new b hb
    · have := hs b hb; omega
    · simp [allB] at hb
  · intro q
    rcases List.mem_cons.1 q with q | q
    · exact hib9 g hg q
    · rcases hall g q with r | r
      · exact h.out9 g hg r
      · have := hb9 g hg; omega
  · intro q
    rcases List.mem_cons.1 q with q | q
    · exact hib10 g hg q
    · rcases hall g q with r | r
      · exact h.out10 g hg r
      · have := hb10 g hg; omega
  · refine ⟨(hg6.os.trans hA.os).trans h.keep.os, (hg6.tape.trans hA.tape).trans h.keep.tape, (hg6.output.trans hA.output).trans h.keep.output, by have := hg6.size; omega, fun b hb hne => ?_⟩
    exact (old6 b (by omega) (fun r => hne (by rw [r]))).trans (h.keep.block b hb hne)
  · rcases hall ib q with r | r
    · exact hibL r
    · omega
/-- .. behind the node's link: all but who is above. -/
structure PN (B mb : Nat) (L0 : List NS) (R : List Row) (par : Int) (w : World) (k : Nat) (Lk : List NS) (ib : Nat) (it : Array Value) (v9 v10 : Value) (X : World) : Prop where
  made : Lk.map (·.1) = (laidP par R (k + 1)).l
  top : IntRow w.heap.size v9 (laidP par R (k + 1)).top X
  ab : IntRow w.heap.size v10 (laidP par R k).ab X
  graph : GraphIn B mb (L0 ++ Lk) X
  new : ∀ b ∈ allB Lk, w.heap.size ≤ b
  apart : v9.ownBlock = none ∨ v9.ownBlock ≠ v10.ownBlock
  out9 : ∀ g, v9.ownBlock = some g → g ∉ ib :: mb :: allB (L0 ++ Lk)
  out10 : ∀ g, v10.ownBlock = some g → g ∉ ib :: mb :: allB (L0 ++ Lk)
  keep : w.grownBy X (some mb)
  item : X.heap[ib]? = some (.cells it 49 (0, 0))
  ibw : w.heap.size ≤ ib ∧ ib ∉ mb :: allB (L0 ++ Lk)
/-- What an append to a row of the call's own leaves. -/
theorem row_left {X X' : World} {o : Obj} {v : Value} (hg : (X.alloc o).grownBy X' v.ownBlock) : (∀ b, b < X.heap.size → some b ≠ v.ownBlock → X'.heap[b]? = X.heap[b]?) ∧ X.heap.size ≤ X'.heap.size := by
  have hA := grow X o
  refine ⟨fun b hb hne => (hg.block b (by have := hA.size; omega) hne).trans (hA.block b hb), by have := hg.size; have := hA.size; omega⟩
theorem keep_left {w X X' : World} {o : Obj} {v : Value} {mb : Nat} (hk : w.grownBy X (some mb)) (hg : (X.alloc o).grownBy X' v.ownBlock) (hv : ∀ g, v.ownBlock = some g → w.heap.size ≤ g) : w.grownBy X' (some mb) := by
  obtain ⟨h1, h2⟩ := row_left hg
  have hA := grow X o
  refine ⟨(hg.os.trans hA.os).trans hk.os, (hg.tape.trans hA.tape).trans hk.tape, (hg.output.trans hA.output).trans hk.output, by have := hk.size; omega, fun b hb hne => (h1 b (by have := hk.size; omega) (fun q => ?_)).trans (hk.block b hb hne)⟩
  have := hv b q.symm
  omega
/-- One more above. -/
theorem ab_next {B mb : Nat} {L0 : List NS} {R : List Row} {par : Int} {w : World} {k : Nat} {Lk : List NS} {ib : Nat} {it : Array Value} {v9 v10 : Value} {X X' : World} {idk : Int} {lv g' cap' : Nat} {rk : Row} {o : Obj}
    (h : PN B mb L0 R par w k Lk ib it v9 v10 X) (hk : k < R.length) (hr : R[k] = rk) (hid : rk.1 = idk) (hlv : rk.2.level.toNat = lv) (hn : lv + 1 ≤ (laidP par R k).ab.length)
    (hown : X'.ownsRow w.heap.size 3 1 (.slice (some ⟨g', 0, none⟩) (lv + 1 + 1) cap') (lv + 1 + 1) ((encK (laidP par R k).ab).take (lv + 1) ++ [.int .i64 idk])) (hg : (X.alloc o).grownBy X' v10.ownBlock) (hloc : v10.ownBlock = some g' ∨ g' = (X.alloc o).heap.size) :
    PL B mb L0 R par w (k + 1) Lk v9 (.slice (some ⟨g', 0, none⟩) (lv + 1 + 1) cap') X' := by
  obtain ⟨h1, h2⟩ := row_left hg
  have hb9 : ∀ g, v9.ownBlock = some g → w.heap.size ≤ g ∧ g < X.heap.size := fun g hg => own_lt h.top hg
  have hb10 : ∀ g, v10.ownBlock = some g → w.heap.size ≤ g ∧ g < X.heap.size := fun g hg => own_lt h.ab hg
  have hlt := h.graph.lt
  have hsz : (X.alloc o).heap.size = X.heap.size + 1 := by simp
  have hab : (laidP par R (k + 1)).ab = (laidP par R k).ab.take (lv + 1) ++ [idk] := by
    rw [laid_next hk]
    unfold stepP
    simp only [hr, hlv, hid]
  have hgo : ∀ b ∈ mb :: allB (L0 ++ Lk), g' ≠ b := by
    intro b hb q
    rcases hloc with r | r
    · exact h.out10 g' r (List.mem_cons_of_mem _ (by rw [q]; exact hb))
    · have := hlt b hb; omega
  refine ⟨h.made, h.top.same (fun g hg9 => h1 g (hb9 g hg9).2 (fun q => ?_)), ?_, h.graph.same (fun b hb => h1 b (hlt b hb) (fun q => ?_)), h.new, ?_, fun g hg => fun q => h.out9 g hg (List.mem_cons_of_mem _ q), fun g hg => ?_, keep_left h.keep hg (fun g hg => (hb10 g hg).1)⟩
  · rcases h.apart with r | r
    · rw [r] at hg9; cases hg9
    · exact r (by rw [hg9, q])
  · unfold IntRow
    rw [hab]
    have e1 : encK ((laidP par R k).ab.take (lv + 1) ++ [idk]) = (encK (laidP par R k).ab).take (lv + 1) ++ [.int .i64 idk] := by simp [encK, List.map_take]
    rw [e1, List.length_append, List.length_take, Nat.min_eq_left hn]
    exact hown
  · exact h.out10 b q.symm (List.mem_cons_of_mem _ hb)
  · cases hv : v9.ownBlock with
    | none => exact Or.inl rfl
    | some a =>
      right
      intro q
      simp only [Value.ownBlock, Option.some.injEq] at q
      rcases hloc with r | r
      · rcases h.apart with z | z
        · rw [hv] at z; cases z
        · exact z (by rw [hv, r, q])
      · have := hb9 a hv; omega
  · simp only [Value.ownBlock, Option.some.injEq] at hg
    intro q
    exact hgo g q (by rw [hg])
/-- One more at level 0. -/
theorem top_next {B mb : Nat} {L0 : List NS} {R : List Row} {par : Int} {w : World} {k : Nat} {Lk : List NS} {e : Nd} {s : Slot} {ib : Nat} {it : Array Value} {v9 v10 : Value} {X X' : World} {g' cap' : Nat} {rk : Row} {o : Obj} {n : Nat}
    (h : PM B mb L0 R par w k Lk e s ib it v9 v10 X) (hk : k < R.length) (hr : R[k] = rk) (hlv : rk.2.level.toNat = 0) (he : e = ⟨rk.1, (laidP par R k).ab.getD 0 0, atL rk.2 0, []⟩) (hn : n = (laidP par R k).top.length)
    (hown : X'.ownsRow w.heap.size 3 1 (.slice (some ⟨g', 0, none⟩) (n + 1) cap') (n + 1) (encK (laidP par R k).top ++ [.int .i64 rk.1])) (hg : (X.alloc o).grownBy X' v9.ownBlock) (hloc : v9.ownBlock = some g' ∨ g' = (X.alloc o).heap.size) :
    PN B mb L0 R par w k (Lk ++ [(e, s)]) ib it (.slice (some ⟨g', 0, none⟩) (n + 1) cap') v10 X' := by
  obtain ⟨h1, h2⟩ := row_left hg
  have hb9 : ∀ g, v9.ownBlock = some g → w.heap.size ≤ g ∧ g < X.heap.size := fun g hg => own_lt h.top hg
  have hb10 : ∀ g, v10.ownBlock = some g → w.heap.size ≤ g ∧ g < X.heap.size := fun g hg => own_lt h.ab hg
  have hlt := h.graph.lt
  have hib := lt_of_block h.item
  have hsz : (X.alloc o).heap.size = X.heap.size + 1 := by simp
  have el : (laidP par R (k + 1)).l = (laidP par R k).l ++ [e] := by
    rw [laid_next hk, he]
    unfold stepP
    simp only [hr, hlv, if_true]
  have et : (laidP par R (k + 1)).top = (laidP par R k).top ++ [rk.1] := by
    rw [laid_next hk]
    unfold stepP
    simp only [hr, hlv, if_true]
  refine ⟨by rw [List.map_append, h.made, el]; rfl, ?_, h.ab.same (fun g hg10 => h1 g (hb10 g hg10).2 (fun q => ?_)), h.graph.same (fun b hb => h1 b (hlt b hb) (fun q => ?_)), h.new, ?_, fun g hg => ?_, fun g hg => h.out10 g hg, keep_left h.keep hg (fun g hg => (hb9 g hg).1), (h1 ib hib (fun q => ?_)).trans h.item, h.ibw⟩
  · unfold IntRow
    rw [et, List.length_append, ← hn]
    have e1 : encK ((laidP par R k).top ++ [rk.1]) = encK (laidP par R k).top ++ [.int .i64 rk.1] := by simp [encK]
    rw [e1]
    exact hown
  · rcases h.apart with r | r
    · rw [r] at q; cases q
    · exact r (by rw [hg10, q])
  · exact h.out9 b q.symm (List.mem_cons_of_mem _ hb)
  · right
    intro q
    replace q : some g' = v10.ownBlock := q
    rcases hloc with r | r
    · rcases h.apart with z | z
      · rw [r] at z; cases z
      · exact z (by rw [r, q])
    · have := hb10 g' q.symm; omega
  · simp only [Value.ownBlock, Option.some.injEq] at hg
    subst hg
    intro q
    rcases hloc with r | r
    · exact h.out9 g' r q
    · rcases List.mem_cons.1 q with z | z
      · omega
      · have := hlt g' z; omega
  · exact h.out9 ib q.symm (List.mem_cons_self ..)
/-- The blocks of one node. -/
theorem mem_blks {s : Slot} {b : Nat} : b ∈ blks s ↔ b = s.g ∨ s.av.ownBlock = some b ∨ s.kv.ownBlock = some b := by
  unfold blks
  simp only [List.mem_cons, List.mem_append, Option.mem_toList]
theorem blks_nodup {B mb : Nat} {L : List NS} {X : World} (h : GraphIn B mb L X) {p : NS} (hp : p ∈ L) : (blks p.2).Nodup := by
  obtain ⟨A, C, rfl⟩ := List.append_of_mem hp
  have h1 := h.nd
  rw [allB_app, allB_cons] at h1
  simp only [List.nodup_cons] at h1
  have h2 := h1.2
  rw [List.nodup_append] at h2
  have h3 := h2.2.1
  rw [List.nodup_append] at h3
  exact h3.1
theorem blks_parts {s : Slot} (h : (blks s).Nodup) : (∀ g, s.av.ownBlock = some g → g ≠ s.g) ∧ (∀ g, s.kv.ownBlock = some g → g ≠ s.g) ∧ (∀ g, s.av.ownBlock = some g → s.kv.ownBlock ≠ some g) := by
  unfold blks at h
  simp only [List.nodup_cons, List.mem_append, Option.mem_toList, not_or] at h
  obtain ⟨⟨h1, h2⟩, h3⟩ := h
  rw [List.nodup_append] at h3
  refine ⟨fun g hg q => h1 (by rw [hg, q]), fun g hg q => h2 (by rw [hg, q]), fun g hg q => h3.2.2 g (by simp [hg]) g (by simp [q]) rfl⟩
/-- A node with one more kid, in memory. -/
theorem kid_more {B mb : Nat} {L1 L2 : List NS} {ep : Nd} {sp : Slot} {X X5 : World} {o : Obj} {idk : Int} {g' cap' : Nat}
    (h : GraphIn B mb (L1 ++ (ep, sp) :: L2) X) (hown : X5.ownsRow B 3 1 (.slice (some ⟨g', 0, none⟩) (ep.kids.length + 1) cap') (ep.kids.length + 1) (encK ep.kids ++ [.int .i64 idk])) (hg : (X.alloc o).grownBy X5 sp.kv.ownBlock) (hloc : sp.kv.ownBlock = some g' ∨ g' = (X.alloc o).heap.size) :
    GraphIn B mb (L1 ++ ({ ep with kids := ep.kids ++ [idk] }, ⟨sp.g, sp.av, .slice (some ⟨g', 0, none⟩) (ep.kids.length + 1) cap'⟩) :: L2) (X5.setCell ⟨sp.g, 7, none⟩ (.slice (some ⟨g', 0, none⟩) (ep.kids.length + 1) cap')) ∧
    (∀ b, b < X.heap.size → b ∉ blks sp → (X5.setCell ⟨sp.g, 7, none⟩ (.slice (some ⟨g', 0, none⟩) (ep.kids.length + 1) cap')).heap[b]? = X.heap[b]?) ∧ X.heap.size ≤ X5.heap.size ∧ (g' ∈ blks sp ∨ X.heap.size ≤ g') := by
  obtain ⟨h1, h2⟩ := row_left hg
  have hm : (ep, sp) ∈ L1 ++ (ep, sp) :: L2 := by simp
  have hn := h.nodes _ hm
  obtain ⟨b1, b2, b3⟩ := blks_parts (blks_nodup h hm)
  dsimp only at hn b1 b2 b3
  have hlt := hn.lt
  have hsz : (X.alloc o).heap.size = X.heap.size + 1 := by simp
  have hsg := lt_of_block hn.cell
  have hgg : g' ≠ sp.g := by
    intro q
    rcases hloc with r | r
    · exact b2 g' r q
    · omega
  have hgk : g' ∈ blks sp ∨ X.heap.size ≤ g' := by
    rcases hloc with r | r
    · exact Or.inl (by simp [blks, r])
    · exact Or.inr (by omega)
  have c5 : X5.heap[sp.g]? = some (.cells (nodeV ep sp) 60 (0, 0)) := (h1 sp.g hsg (fun q => b2 sp.g q.symm rfl)).trans hn.cell
  have oth : ∀ b, b < X.heap.size → b ∉ blks sp → (X5.setCell ⟨sp.g, 7, none⟩ (.slice (some ⟨g', 0, none⟩) (ep.kids.length + 1) cap')).heap[b]? = X.heap[b]? := by
    intro b hb hq
    rw [Below.heap_setCell _ _ _ _ (fun q : b = sp.g => hq (by simp [blks, q]))]
    exact h1 b hb (fun q => hq (by simp [blks, ← q]))
  have hav : ∀ g, sp.av.ownBlock = some g → (X5.setCell ⟨sp.g, 7, none⟩ (.slice (some ⟨g', 0, none⟩) (ep.kids.length + 1) cap')).heap[g]? = X.heap[g]? := by
    intro g hq
    rw [Below.heap_setCell _ _ _ _ (b1 g hq)]
    exact h1 g (own_lt hn.attrs hq).2 (fun q => b3 g hq q.symm)
  refine ⟨graph_turn h oth ⟨heap_setCell_same _ _ _ _ _ _ c5, own_same hn.attrs hav, ?_⟩ (fun b hb => ?_) ?_ (fun b hb => ?_) rfl rfl, oth, h2, hgk⟩
  · have := own_same hown (w' := X5.setCell ⟨sp.g, 7, none⟩ (.slice (some ⟨g', 0, none⟩) (ep.kids.length + 1) cap')) (fun g hq => by
      simp only [Value.ownBlock, Option.some.injEq] at hq
      exact Below.heap_setCell _ _ _ _ (by rw [← hq]; exact hgg))
    have e1 : encK (ep.kids ++ [idk]) = encK ep.kids ++ [.int .i64 idk] := by simp [encK]
    show World.ownsRow _ B 3 1 _ (ep.kids ++ [idk]).length (encK (ep.kids ++ [idk]))
    rw [e1, List.length_append]
    exact this
  · rcases mem_blks.1 hb with hb | hb | hb
    · exact Or.inl (mem_blks.2 (Or.inl hb))
    · exact Or.inl (mem_blks.2 (Or.inr (Or.inl hb)))
    · simp only [Value.ownBlock, Option.some.injEq] at hb
      rw [← hb]; exact hgk
  · show (sp.g :: (sp.av.ownBlock.toList ++ [g'])).Nodup
    cases hv : sp.av.ownBlock with
    | none => simp only [Option.toList_none, List.nil_append, List.nodup_cons, List.mem_singleton, List.not_mem_nil, not_false_iff, List.nodup_nil, and_true]; exact fun q => hgg q.symm
    | some a =>
      have ha := own_lt hn.attrs hv
      simp only [Option.toList_some, List.cons_append, List.nil_append, List.nodup_cons, List.mem_cons, List.not_mem_nil, or_false, not_or, not_false_iff, List.nodup_nil, and_true]
      refine ⟨⟨fun q => b1 a hv q.symm, fun q => hgg q.symm⟩, fun q => ?_⟩
      rcases hloc with r | r
      · exact b3 a hv (by rw [r, q])
      · omega
  · have hge := h.ge
    rcases mem_blks.1 hb with hb | hb | hb
    · exact hge b (List.mem_cons_of_mem _ (List.mem_flatMap.2 ⟨(ep, sp), hm, mem_blks.2 (Or.inl hb)⟩))
    · exact (own_lt hn.attrs hb).1
    · exact (own_lt hown hb).1
/-- One more kid of one that is laid. -/
theorem kid_next {B mb : Nat} {L0 : List NS} {R : List Row} {par : Int} {w : World} {k : Nat} {A Bk : List NS} {ep e : Nd} {sp s : Slot} {ib : Nat} {it : Array Value} {v9 v10 : Value} {X X5 : World} {g' cap' : Nat} {rk : Row} {o : Obj} {pi : Int}
    (h : PM B mb L0 R par w k (A ++ (ep, sp) :: Bk) e s ib it v9 v10 X) (hk : k < R.length) (hr : R[k] = rk) (hlv : rk.2.level.toNat ≠ 0) (hpi : (laidP par R k).ab.getD rk.2.level.toNat 0 = pi) (hep : ep.id = pi) (he : e = ⟨rk.1, pi, atL rk.2 0, []⟩)
    (hown : X5.ownsRow B 3 1 (.slice (some ⟨g', 0, none⟩) (ep.kids.length + 1) cap') (ep.kids.length + 1) (encK ep.kids ++ [.int .i64 rk.1])) (hg : (X.alloc o).grownBy X5 sp.kv.ownBlock) (hloc : sp.kv.ownBlock = some g' ∨ g' = (X.alloc o).heap.size) :
    PN B mb L0 R par w k ((A ++ ({ ep with kids := ep.kids ++ [rk.1] }, ⟨sp.g, sp.av, .slice (some ⟨g', 0, none⟩) (ep.kids.length + 1) cap'⟩) :: Bk) ++ [(e, s)]) ib it v9 v10 (X5.setCell ⟨sp.g, 7, none⟩ (.slice (some ⟨g', 0, none⟩) (ep.kids.length + 1) cap')) := by
  have eL : L0 ++ ((A ++ (ep, sp) :: Bk) ++ [(e, s)]) = (L0 ++ A) ++ (ep, sp) :: (Bk ++ [(e, s)]) := by simp
  have eL' : L0 ++ ((A ++ ({ ep with kids := ep.kids ++ [rk.1] }, ⟨sp.g, sp.av, .slice (some ⟨g', 0, none⟩) (ep.kids.length + 1) cap'⟩) :: Bk) ++ [(e, s)]) = (L0 ++ A) ++ ({ ep with kids := ep.kids ++ [rk.1] }, ⟨sp.g, sp.av, .slice (some ⟨g', 0, none⟩) (ep.kids.length + 1) cap'⟩) :: (Bk ++ [(e, s)]) := by simp
  have hgr := h.graph
  rw [eL] at hgr
  obtain ⟨k1, k2, k3, k4⟩ := kid_more hgr hown hg hloc
  have hb9 : ∀ g, v9.ownBlock = some g → w.heap.size ≤ g ∧ g < X.heap.size := fun g hg => own_lt h.top hg
  have hb10 : ∀ g, v10.ownBlock = some g → w.heap.size ≤ g ∧ g < X.heap.size := fun g hg => own_lt h.ab hg
  have hib := lt_of_block h.item
  have hsp : ∀ b ∈ blks sp, b ∈ mb :: allB (L0 ++ ((A ++ (ep, sp) :: Bk) ++ [(e, s)])) := fun b hb => List.mem_cons_of_mem _ (List.mem_flatMap.2 ⟨(ep, sp), by simp, hb⟩)
  have hspn : ∀ b ∈ blks sp, w.heap.size ≤ b := fun b hb => h.new b (List.mem_flatMap.2 ⟨(ep, sp), by simp, hb⟩)
  -- the blocks behind
  have hall : ∀ b, b ∈ mb :: allB (L0 ++ ((A ++ ({ ep with kids := ep.kids ++ [rk.1] }, ⟨sp.g, sp.av, .slice (some ⟨g', 0, none⟩) (ep.kids.length + 1) cap'⟩) :: Bk) ++ [(e, s)])) → b ∈ mb :: allB (L0 ++ ((A ++ (ep, sp) :: Bk) ++ [(e, s)])) ∨ X.heap.size ≤ b := by
    intro b hb
    rw [eL', allB_app, allB_cons] at hb
    rw [eL, allB_app, allB_cons]
    simp only [List.mem_cons, List.mem_append] at hb ⊢
    rcases hb with hb | hb | hb | hb
    · exact Or.inl (Or.inl hb)
    · exact Or.inl (Or.inr (Or.inl hb))
    · rcases mem_blks.1 hb with hb | hb | hb
      · exact Or.inl (Or.inr (Or.inr (Or.inl (mem_blks.2 (Or.inl hb)))))
      · exact Or.inl (Or.inr (Or.inr (Or.inl (mem_blks.2 (Or.inr (Or.inl hb))))))
      · simp only [Value.ownBlock, Option.some.injEq] at hb
        rw [← hb]
        rcases k4 with q | q
        · exact Or.inl (Or.inr (Or.inr (Or.inl q)))
        · exact Or.inr q
    · exact Or.inl (Or.inr (Or.inr (Or.inr hb)))
  have hidn := h.graph.map.nd
  have el : (laidP par R (k + 1)).l = mapE pi (addK [rk.1]) (laidP par R k).l ++ [e] := by
    rw [laid_next hk, he]
    unfold stepP
    simp only [hr, if_neg hlv, hpi]
  have et : (laidP par R (k + 1)).top = (laidP par R k).top := by
    rw [laid_next hk]
    unfold stepP
    simp only [hr, if_neg hlv]
  refine ⟨?_, ?_, h.ab.same (fun g hg10 => k2 g (hb10 g hg10).2 (fun q => h.out10 g hg10 (List.mem_cons_of_mem _ (hsp g q)))), by rw [eL']; exact k1, fun b hb => ?_, h.apart, fun g hg9 q => ?_, fun g hg10 q => ?_, ?_, (k2 ib hib (fun q => h.ibw.2 (hsp ib q))).trans h.item, h.ibw.1, fun q => ?_⟩
  · have hA : pi ∉ (A.map (·.1)).map (·.id) ∧ pi ∉ (Bk.map (·.1)).map (·.id) := by
      rw [eL] at hidn
      simp only [idg, List.map_append, List.map_cons, List.map_map] at hidn
      rw [List.nodup_append] at hidn
      obtain ⟨n1, n2, n3⟩ := hidn
      rw [List.nodup_cons] at n2
      rw [← hep]
      refine ⟨fun q => ?_, fun q => ?_⟩
      · simp only [List.map_map, List.mem_map, Function.comp_apply] at q
        obtain ⟨p, hp, hq⟩ := q
        exact n3 p.1.id (List.mem_append_right _ (List.mem_map.2 ⟨p, hp, rfl⟩)) ep.id (List.mem_cons_self ..) hq
      · simp only [List.map_map, List.mem_map, Function.comp_apply] at q
        obtain ⟨p, hp, hq⟩ := q
        exact n2.1 (List.mem_append_left _ (List.mem_map.2 ⟨p, hp, hq⟩))
    rw [el, ← h.made]
    simp only [List.map_append, List.map_cons, List.map_nil]
    rw [mapE_app, mapE_none hA.1, mapE_cons, if_pos hep, mapE_none hA.2]
    rfl
  · unfold IntRow
    rw [et]
    exact h.top.same (fun g hg9 => k2 g (hb9 g hg9).2 (fun q => h.out9 g hg9 (List.mem_cons_of_mem _ (hsp g q))))
  · have hb2 : b ∈ mb :: allB (L0 ++ ((A ++ ({ ep with kids := ep.kids ++ [rk.1] }, ⟨sp.g, sp.av, .slice (some ⟨g', 0, none⟩) (ep.kids.length + 1) cap'⟩) :: Bk) ++ [(e, s)])) := List.mem_cons_of_mem _ (by rw [allB_app]; exact List.mem_append_right _ hb)
    rw [List.append_assoc, allB_app, List.cons_append, allB_cons] at hb
    simp only [List.mem_append] at hb
    rcases hb with hb | hb | hb
    · exact h.new b (by rw [allB_app, allB_app]; simp [hb])
    · rcases mem_blks.1 hb with hb | hb | hb
      · exact hspn b (mem_blks.2 (Or.inl hb))
      · exact hspn b (mem_blks.2 (Or.inr (Or.inl hb)))
      · simp only [Value.ownBlock, Option.some.injEq] at hb
        rcases k4 with q | q
        · exact hspn b (by rw [← hb]; exact q)
        · have := h.keep.size; omega
    · refine h.new b ?_
      rw [allB_app] at hb
      rw [allB_app, allB_app, allB_cons]
      simp only [List.mem_append] at hb ⊢
      rcases hb with hb | hb
      · exact Or.inl (Or.inr (Or.inr hb))
      · exact Or.inr hb
  · rcases List.mem_cons.1 q with z | z
    · exact h.out9 g hg9 (by rw [z]; exact List.mem_cons_self ..)
    · rcases hall g z with r | r
      · exact h.out9 g hg9 (List.mem_cons_of_mem _ r)
      · have := hb9 g hg9; omega
  · rcases List.mem_cons.1 q with z | z
    · exact h.out10 g hg10 (by rw [z]; exact List.mem_cons_self ..)
    · rcases hall g z with r | r
      · exact h.out10 g hg10 (List.mem_cons_of_mem _ r)
      · have := hb10 g hg10; omega
  · have hA := grow X o
    refine ⟨(hg.os.trans hA.os).trans h.keep.os, (hg.tape.trans hA.tape).trans h.keep.tape, (hg.output.trans hA.output).trans h.keep.output, ?_, fun b hb hne => ?_⟩
    · have := h.keep.size
      have e1 : (X5.setCell ⟨sp.g, 7, none⟩ (.slice (some ⟨g', 0, none⟩) (ep.kids.length + 1) cap')).heap.size = X5.heap.size := by simp [World.setCell]
      omega
    · exact (k2 b (by have := h.keep.size; omega) (fun q => by have := hspn b q; omega)).trans (h.keep.block b hb hne)
  · rcases hall ib q with r | r
    · exact h.ibw.2 r
    · omega
end N
end Go.Proofs.YtidccohjehegjaaDoor
namespace Go.Proofs.YtidccohjehegjaaDoor
open Go.RowKit Go.Shelf
namespace N
open T
section
variable {B tb mb : Nat} {f : F} {nx : Int} {L : List NS} {w : World}
theorem TreeIn.miss (h : TreeIn B tb mb f nx L w) {id : Int} (hw : wfI id) (hl : look (idg L) id = none) : (Instr.lookup 62 (.map (some mb)) (.int .i64 id) false).run Tryd.prog w = .ok (.pointer none) w := by
  rw [get h.graph.map hw, hl]; rfl
theorem TreeIn.hit (h : TreeIn B tb mb f nx L w) {id : Int} {g : Nat} (hw : wfI id) (hl : look (idg L) id = some g) : (Instr.lookup 62 (.map (some mb)) (.int .i64 id) false).run Tryd.prog w = .ok (.pointer (some ⟨g, 0, none⟩)) w := by
  rw [get h.graph.map hw, hl]; rfl
theorem root_any (h : Hid (TreeIn B tb mb f nx L w)) : Calls Tryd.prog 11 #[.pointer (some ⟨tb, 0, none⟩)] w fun e w' => e = .returned (.int .i64 (rootF f)) ∧ w' = w := by
  obtain ⟨c0, c1, c2⟩ := h.out.cells
  go_enter Tryd.func11, Tryd.ntmps11
  go_wp2
  go_ret
  exact ⟨rfl, rfl⟩
theorem len_any (h : Hid (TreeIn B tb mb f nx L w)) : Calls Tryd.prog 13 #[.pointer (some ⟨tb, 0, none⟩)] w fun e w' => e = .returned (.int .i64 (L.length : Int)) ∧ w' = w := by
  obtain ⟨c0, c1, c2⟩ := h.out.cells
  have hl := N.len h.out.graph.map 3
  rw [show (idg L).length = L.length by simp [idg]] at hl
  go_enter Tryd.func13, Tryd.ntmps13
  go_wp2
  go_ret
  exact ⟨rfl, rfl⟩
theorem of_none (h : Hid (TreeIn B tb mb f nx L w)) (kind id : Int) (hw : wfI id) (hl : Hid (look (idg L) id = none)) : Calls Tryd.prog 35 #[.pointer (some ⟨tb, 0, none⟩), .int .i64 kind, .int .i64 id] w fun r w' => r = .returned (.tuple #[.pointer none, .int .i64 60]) ∧ w' = w := by
  obtain ⟨c0, c1, c2⟩ := h.out.cells
  have hg := h.out.miss hw hl.out
  go_enter Tryd.func35, Tryd.ntmps35
  go_wp2
  go_ret2
  exact ⟨rfl, rfl⟩
theorem of_kind (h : Hid (TreeIn B tb mb f nx L w)) (kind id : Int) (hw : wfI id) (e : Nd) (s : Slot) (hm : Hid ((e, s) ∈ L)) (hl : Hid (look (idg L) id = some s.g)) (hk : e.x.kind ≠ kind) : Calls Tryd.prog 35 #[.pointer (some ⟨tb, 0, none⟩), .int .i64 kind, .int .i64 id] w fun r w' => r = .returned (.tuple #[.pointer none, .int .i64 68]) ∧ w' = w := by
  obtain ⟨c0, c1, c2⟩ := h.out.cells
  have hg := h.out.hit hw hl.out
  obtain ⟨d0, d1, d2, d3, d4, d5, d6, d7⟩ := (h.out.graph.nodes _ hm.out).cells
  have hk' : (e.x.kind != kind) = true := by simpa using hk
  go_enter Tryd.func35, Tryd.ntmps35
  go_wp2
  go_ret2
  exact ⟨rfl, rfl⟩
theorem of_ok (h : Hid (TreeIn B tb mb f nx L w)) (kind id : Int) (hw : wfI id) (e : Nd) (s : Slot) (hm : Hid ((e, s) ∈ L)) (hl : Hid (look (idg L) id = some s.g)) (hk : Hid (e.x.kind = kind)) : Calls Tryd.prog 35 #[.pointer (some ⟨tb, 0, none⟩), .int .i64 kind, .int .i64 id] w fun r w' => r = .returned (.tuple #[.pointer (some ⟨s.g, 0, none⟩), .int .i64 0]) ∧ w' = w := by
  obtain ⟨c0, c1, c2⟩ := h.out.cells
  have hg := h.out.hit hw hl.out
  obtain ⟨d0, d1, d2, d3, d4, d5, d6, d7⟩ := (h.out.graph.nodes _ hm.out).cells
  rw [hk.out] at d2
  have hk' : (kind != kind) = false := by simp
  go_enter Tryd.func35, Tryd.ntmps35
  go_wp2
  go_ret2
  exact ⟨rfl, rfl⟩
/-- The cells of a node's kids. -/
theorem kids_cells {e : Nd} {s : Slot} (h : NodeIn B e s w) (hne : e.kids ≠ []) : ∃ g cap, s.kv = .slice (some ⟨g, 0, none⟩) e.kids.length cap ∧ ∀ j (hj : j < e.kids.length), w.cell? ⟨g, j, none⟩ = some (.int .i64 e.kids[j]) := by
  have hpos : 0 < e.kids.length := List.length_pos_iff.2 hne
  rcases h.kids.2 with ⟨_, hz⟩ | ⟨g, cap, cur, h0, h1, h2, h3, h4, h5, h6⟩
  · omega
  · refine ⟨g, cap, h0, fun j hj => ?_⟩
    rw [Lib.cell_of_heap h2, ← Array.getElem?_toList]
    have q : (encK e.kids)[j]? = some (.int .i64 e.kids[j]) := by unfold encK; rw [List.getElem?_map, List.getElem?_eq_getElem hj]; rfl
    rw [← h6, List.getElem?_take] at q
    split at q
    · exact q
    · cases q
theorem kv_form {e : Nd} {s : Slot} (h : NodeIn B e s w) : ∃ a c, s.kv = .slice a e.kids.length c := by
  rcases h.kids.2 with ⟨h0, hz⟩ | ⟨g, cap, cur, h0, _⟩
  · exact ⟨none, 0, by rw [h0, hz]⟩
  · exact ⟨_, _, h0⟩
theorem kid_none (h : Hid (TreeIn B tb mb f nx L w)) (id k : Int) (hw : wfI id) (hl : Hid (look (idg L) id = none)) : Calls Tryd.prog 16 #[.pointer (some ⟨tb, 0, none⟩), .int .i64 id, .int .i64 k] w fun r w' => r = .returned (.tuple #[.int .i64 0, .bool false]) ∧ w' = w := by
  obtain ⟨c0, c1, c2⟩ := h.out.cells
  have hg := h.out.miss hw hl.out
  go_enter Tryd.func16, Tryd.ntmps16
  go_wp2
  go_ret2
  exact ⟨rfl, rfl⟩
theorem kid_past (h : Hid (TreeIn B tb mb f nx L w)) (id k : Int) (hw : wfI id) (e : Nd) (s : Slot) (hm : Hid ((e, s) ∈ L)) (hl : Hid (look (idg L) id = some s.g)) (hk : k < 0 ∨ (e.kids.length : Int) ≤ k) : Calls Tryd.prog 16 #[.pointer (some ⟨tb, 0, none⟩), .int .i64 id, .int .i64 k] w fun r w' => r = .returned (.tuple #[.int .i64 0, .bool false]) ∧ w' = w := by
  obtain ⟨c0, c1, c2⟩ := h.out.cells
  have hg := h.out.hit hw hl.out
  have hn := h.out.graph.nodes _ hm.out
  obtain ⟨d0, d1, d2, d3, d4, d5, d6, d7⟩ := hn.cells
  obtain ⟨ka, kc, hkv⟩ := kv_form hn
  dsimp only at hkv
  rw [hkv] at d7
  clear hn hkv
  rcases hk with hk | hk
  · go_enter Tryd.func16, Tryd.ntmps16
    go_wp2
    go_ret2
    exact ⟨rfl, rfl⟩
  · have hk0 : ¬ k < 0 := by omega
    go_enter Tryd.func16, Tryd.ntmps16
    go_wp2
    go_ret2
    exact ⟨rfl, rfl⟩
set_option maxRecDepth 100000 in
theorem kid_ok (h : Hid (TreeIn B tb mb f nx L w)) (id : Int) (k : Nat) (hw : wfI id) (e : Nd) (s : Slot) (hm : Hid ((e, s) ∈ L)) (hl : Hid (look (idg L) id = some s.g)) (hk : k < e.kids.length) : Calls Tryd.prog 16 #[.pointer (some ⟨tb, 0, none⟩), .int .i64 id, .int .i64 (k : Int)] w fun r w' => r = .returned (.tuple #[.int .i64 e.kids[k], .bool true]) ∧ w' = w := by
  obtain ⟨c0, c1, c2⟩ := h.out.cells
  have hg := h.out.hit hw hl.out
  have hn := h.out.graph.nodes _ hm.out
  obtain ⟨d0, d1, d2, d3, d4, d5, d6, d7⟩ := hn.cells
  obtain ⟨ka, kc, hkv, hcc⟩ := kids_cells hn (by rintro q; rw [q] at hk; simp at hk)
  dsimp only at hkv
  rw [hkv] at d7
  have hc := hcc k hk
  have hk0 : ¬ (k : Int) < 0 := by omega
  have hk1 : (k : Int) < (e.kids.length : Int) := by omega
  clear hn hkv hcc
  go_enter Tryd.func16, Tryd.ntmps16
  go_wp2
  go_ret2
  exact ⟨rfl, rfl⟩
end
end N
end Go.Proofs.YtidccohjehegjaaDoor
