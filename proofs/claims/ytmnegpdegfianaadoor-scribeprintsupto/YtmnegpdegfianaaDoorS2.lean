/- Plain mathematics for the statements of layer 5: what is made normal comes of what was given; what is printed, or why not. No program is spoken of here. -/
import Derived.Test.YtmnegpdegfianaaDoorS1
import Derived.Test.YtmnegpdegfianaaDoorPShape
namespace Go.Proofs.YtmnegpdegfianaaDoor
namespace S
open P L G E
/-- Items, printed, by what is open; at the end all beyond a level is closed. -/
def printE : List Itm → List ByteArray → Nat → List UInt8
  | [], op, n => closeL op n
  | x :: l, op, n => closeL op x.level.toNat ++ (if x.kind = 2 then txtL x.text ++ printE l (op.take x.level.toNat) n
      else if leafB x l = true then tagL x.name (evs x.attrs) ++ ([47, 62] ++ printE l (op.take x.level.toNat) n)
      else tagL x.name (evs x.attrs) ++ ([62] ++ printE l (op.take x.level.toNat ++ [x.name]) n))
theorem print_all : ∀ (l : List Itm) (op : List ByteArray), printF l op = printE l op 0
  | [], _ => rfl
  | x :: l, op => by
    unfold printF printE
    rw [print_all l, print_all l]
theorem close_two {op : List ByteArray} {n m : Nat} (h : m ≤ n) : closeL op m = closeL op n ++ closeL (op.take n) m := by
  unfold closeL
  have e : op.drop m = (op.take n).drop m ++ op.drop n := by
    by_cases hn : n ≤ op.length
    · conv => lhs; rw [← List.take_append_drop n op]
      rw [List.drop_append_of_le_length (by rw [List.length_take]; omega)]
    · rw [List.take_of_length_le (by omega), List.drop_eq_nil_of_le (i := n) (by omega), List.append_nil]
  rw [e, List.reverse_append, List.flatMap_append]
theorem leaf_app {x : Itm} {l rest : List Itm} (h : ∀ y, rest.head? = some y → y.level ≤ x.level) : leafB x (l ++ rest) = leafB x l := by
  cases l with
  | nil =>
    cases rest with
    | nil => rfl
    | cons y r =>
      have := h y rfl
      simp [leafB, this]
  | cons y r => rfl
theorem print_nil (op : List ByteArray) (n : Nat) : printE [] op n = closeL op n := rfl
theorem print_cons (x : Itm) (l : List Itm) (op : List ByteArray) (n : Nat) : printE (x :: l) op n = closeL op x.level.toNat ++ (if x.kind = 2 then txtL x.text ++ printE l (op.take x.level.toNat) n
      else if leafB x l = true then tagL x.name (evs x.attrs) ++ ([47, 62] ++ printE l (op.take x.level.toNat) n)
      else tagL x.name (evs x.attrs) ++ ([62] ++ printE l (op.take x.level.toNat ++ [x.name]) n)) := rfl
/-- A row in two parts, of which the first one lies beyond a level, and the second one begins at it, or above. -/
theorem print_two : ∀ (sub rest : List Itm) (op : List ByteArray) (n m : Nat), (∀ x ∈ sub, (n : Int) ≤ x.level) → (∀ y, rest.head? = some y → 0 ≤ y.level ∧ y.level ≤ (n : Int)) → m ≤ n → n ≤ op.length → printE (sub ++ rest) op m = printE sub op n ++ printE rest (op.take n) m
  | [], [], op, n, m, _, _, hm, _ => by
    show closeL op m = closeL op n ++ closeL (op.take n) m
    exact close_two hm
  | [], y :: r, op, n, m, _, hr, hm, _ => by
    obtain ⟨h0, h1⟩ := hr y rfl
    rw [List.nil_append, print_nil, print_cons, print_cons]
    rw [close_two (n := n) (m := y.level.toNat) (by omega), List.append_assoc]
    have e : (op.take n).take y.level.toNat = op.take y.level.toNat := by rw [List.take_take]; congr 1; omega
    rw [e]
  | x :: l, rest, op, n, m, hs, hr, hm, hop => by
    have hx := hs x (List.mem_cons_self ..)
    have hl : ∀ z ∈ l, (n : Int) ≤ z.level := fun z hz => hs z (List.mem_cons_of_mem _ hz)
    have lf : leafB x (l ++ rest) = leafB x l := leaf_app fun y hy => by have := (hr y hy).2; omega
    have e1 : (op.take x.level.toNat).take n = op.take n := by rw [List.take_take]; congr 1; omega
    have hq : n ≤ (op.take x.level.toNat).length := by rw [List.length_take]; omega
    rw [List.cons_append, print_cons, print_cons, lf, List.append_assoc]
    congr 1
    split
    · rw [print_two l rest _ n m hl hr hm hq, e1, List.append_assoc]
    · split
      · rw [print_two l rest _ n m hl hr hm hq, e1]
        simp only [List.append_assoc]
      · rw [print_two l rest _ n m hl hr hm (by rw [List.length_append]; omega), List.take_append_of_le_length hq, e1]
        simp only [List.append_assoc]
/-- An item with all that is in it, printed: nothing else is open at its level. -/
def itemL (x : Itm) (sub : List Itm) (op : List ByteArray) : List UInt8 :=
  if x.kind = 2 then txtL x.text else if sub = [] then tagL x.name (evs x.attrs) ++ [47, 62] else tagL x.name (evs x.attrs) ++ ([62] ++ (printE sub (op ++ [x.name]) (op.length + 1) ++ endL x.name))
/-- An item, what is in it, and the rest. -/
theorem print_item {x : Itm} {sub rest : List Itm} {op : List ByteArray} {m : Nat} (hx : x.level = (op.length : Int)) (hs : ∀ y ∈ sub, x.level < y.level) (ht : x.kind = 2 → sub = []) (hr : ∀ y, rest.head? = some y → 0 ≤ y.level ∧ y.level ≤ x.level) (hm : m ≤ op.length) : printE (x :: (sub ++ rest)) op m = itemL x sub op ++ printE rest op m := by
  have hn : x.level.toNat = op.length := by omega
  rw [print_cons, hn, close_all (Nat.le_refl _), List.nil_append, List.take_length]
  unfold itemL
  split
  · rename_i hk
    rw [ht hk, List.nil_append]
  · cases sub with
    | nil =>
      have lf : leafB x ([] ++ rest) = true := leaf_app (l := []) fun y hy => (hr y hy).2
      rw [if_pos lf, if_pos rfl, List.nil_append]
      simp only [List.append_assoc]
    | cons z l =>
      have hz := hs z (List.mem_cons_self ..)
      have lf : leafB x (z :: l ++ rest) = false := by simp [leafB]; omega
      rw [if_neg (by rw [lf]; simp), if_neg (by simp)]
      rw [print_two (z :: l) rest (op ++ [x.name]) (op.length + 1) m (fun y hy => by have := hs y hy; omega) (fun y hy => by have := hr y hy; omega) (by omega) (by simp)]
      rw [List.take_of_length_le (by simp)]
      have e : printE rest (op ++ [x.name]) m = endL x.name ++ printE rest op m := by
        cases rest with
        | nil => rw [print_nil, print_nil, close_snoc hm]
        | cons y r =>
          have hy := hr y rfl
          have e1 : (op ++ [x.name]).take y.level.toNat = op.take y.level.toNat := List.take_append_of_le_length (by omega)
          rw [print_cons, print_cons, close_snoc (by omega), e1, List.append_assoc]
      rw [e]
      simp only [List.append_assoc]
/-- How long a print is at the most. -/
theorem end_len {nm : ByteArray} (h : nm.size ≤ 60) : (endL nm).length ≤ 63 := by simp [endL]; omega
theorem close_len : ∀ (op : List ByteArray) (n : Nat), (∀ m ∈ op, m.size ≤ 60) → (closeL op n).length ≤ 63 * (op.length - n) := by
  intro op n h
  unfold closeL
  have key : ∀ l : List ByteArray, (∀ m ∈ l, m.size ≤ 60) → (l.flatMap endL).length ≤ 63 * l.length := by
    intro l
    induction l with
    | nil => simp
    | cons a r ih =>
      intro hl
      have h1 := end_len (hl a (List.mem_cons_self ..))
      have h2 := ih fun m hm => hl m (List.mem_cons_of_mem _ hm)
      rw [List.flatMap_cons, List.length_append, List.length_cons]
      omega
  have := key (op.drop n).reverse (fun m hm => h m (List.mem_of_mem_drop (List.mem_reverse.1 hm)))
  rw [List.length_reverse, List.length_drop] at this
  exact this
theorem getD_len (v : Bool) (l : List UInt8) : ((escL v l).getD []).length ≤ 6 * l.length := by
  cases h : escL v l with
  | none => simp
  | some m => exact escL_len v l m h
theorem name_le {b : ByteArray} (h : nameP b = true) : b.size ≤ 60 := by
  unfold nameP nameB at h
  simp only [Bool.and_eq_true, decide_eq_true_eq] at h
  simpa using h.1.1
theorem atts_bound : ∀ (l : List Attr), (∀ a ∈ l, okA a) → (attsL (evs l)).length ≤ 9064 * l.length
  | [], _ => by simp [evs, attsL]
  | a :: l, h => by
    have ih := atts_bound l fun x hx => h x (List.mem_cons_of_mem _ hx)
    have ha := h a (List.mem_cons_self ..)
    have h1 := name_le ha.1
    have h2 := getD_len true a.2.data.toList
    have h3 := ha.2.2
    unfold evs at ih ⊢
    rw [List.map_cons]
    simp only [attsL, attC, List.length_cons, List.length_append, List.length_nil]
    simp only [Array.length_toList, ByteArray.size_data] at h2 ⊢
    omega
theorem tag_bound {x : Itm} (h1 : nameP x.name = true) (h2 : x.attrs.length ≤ 20) (h3 : ∀ a ∈ x.attrs, okA a) : (tagL x.name (evs x.attrs)).length ≤ 181341 := by
  have a := atts_bound x.attrs h3
  have b := name_le h1
  simp only [tagL, List.length_append, List.length_cons, List.length_nil, Array.length_toList, ByteArray.size_data]
  omega
theorem print_bound (B : Nat) : ∀ (l : List Itm) (op : List ByteArray) (n : Nat), (∀ x ∈ l, okI x ∧ x.text.size ≤ B) → (∀ m ∈ op, m.size ≤ 60) → (printE l op n).length ≤ l.length * (181500 + 6 * B) + 63 * op.length
  | [], op, n, _, ho => by
    have := close_len op n ho
    rw [print_nil]
    simp
    omega
  | x :: l, op, n, h, ho => by
    obtain ⟨okx, hB⟩ := h x (List.mem_cons_self ..)
    have hl : ∀ z ∈ l, okI z ∧ z.text.size ≤ B := fun z hz => h z (List.mem_cons_of_mem _ hz)
    have c := close_len op x.level.toNat ho
    have ho' : ∀ m ∈ op.take x.level.toNat, m.size ≤ 60 := fun m hm => ho m (List.mem_of_mem_take hm)
    have i1 := print_bound B l (op.take x.level.toNat) n hl ho'
    rw [List.length_take] at i1
    have e : (l.length + 1) * (181500 + 6 * B) = l.length * (181500 + 6 * B) + (181500 + 6 * B) := by rw [Nat.add_mul, Nat.one_mul]
    rw [print_cons, List.length_append, List.length_cons, e]
    rcases okx with ⟨k2, _⟩ | ⟨k2, k3, k4, k5, k6, _⟩
    · rw [if_pos k2, List.length_append]
      have t : (txtL x.text).length ≤ 6 * x.text.size := by
        have := getD_len false x.text.data.toList
        simpa [txtL] using this
      omega
    · have t := tag_bound k4 k5 k6
      rw [if_neg (by omega)]
      have i2 := print_bound B l (op.take x.level.toNat ++ [x.name]) n hl (fun m hm => by
        rcases List.mem_append.1 hm with q | q
        · exact ho' m q
        · simp only [List.mem_singleton] at q; rw [q]; exact name_le k4)
      rw [List.length_append, List.length_take] at i2
      simp only [List.length_cons, List.length_nil] at i2
      split
      · simp only [List.length_append, List.length_cons, List.length_nil]
        omega
      · simp only [List.length_append, List.length_cons, List.length_nil]
        omega
end S
end Go.Proofs.YtmnegpdegfianaaDoor
namespace Go.Proofs.YtmnegpdegfianaaDoor
namespace S
open P L G E
/-- The items from a place to another. -/
def sl (m : List Itm) (a b : Nat) : List Itm := (m.take b).drop a
theorem sl_nil {m : List Itm} {a b : Nat} (h : b ≤ a) : sl m a b = [] := by
  unfold sl
  rw [List.drop_eq_nil_of_le (by rw [List.length_take]; omega)]
theorem sl_cons {m : List Itm} {a b : Nat} (h : a < b) (hb : b ≤ m.length) : sl m a b = m[a] :: sl m (a + 1) b := by
  unfold sl
  rw [List.drop_eq_getElem_cons (by rw [List.length_take]; omega), List.getElem_take]
theorem sl_app {m : List Itm} {a c b : Nat} (h1 : a ≤ c) (h2 : c ≤ b) (hb : b ≤ m.length) : sl m a b = sl m a c ++ sl m c b := by
  unfold sl
  have e : m.take b = m.take c ++ (m.take b).drop c := by
    conv => lhs; rw [← List.take_append_drop c (m.take b)]
    rw [List.take_take]
    congr 2
    omega
  conv => lhs; rw [e]
  rw [List.drop_append_of_le_length (by rw [List.length_take]; omega)]
theorem sl_mem {m : List Itm} {a b : Nat} {y : Itm} (h : y ∈ sl m a b) : ∃ i, ∃ hi : i < m.length, a ≤ i ∧ i < b ∧ y = m[i] := by
  unfold sl at h
  obtain ⟨i, hi, e⟩ := List.getElem_of_mem h
  rw [List.length_drop, List.length_take] at hi
  refine ⟨a + i, by omega, by omega, by omega, ?_⟩
  rw [← e, List.getElem_drop, List.getElem_take]
theorem sl_head {m : List Itm} {a b : Nat} {y : Itm} (h : (sl m a b).head? = some y) : ∃ hi : a < m.length, a < b ∧ y = m[a] := by
  by_cases hab : a < b
  · by_cases hm : a < m.length
    · refine ⟨hm, hab, ?_⟩
      unfold sl at h
      rw [List.drop_eq_getElem_cons (by rw [List.length_take]; omega), List.getElem_take] at h
      simpa using h.symm
    · unfold sl at h
      rw [List.drop_eq_nil_of_le (by rw [List.length_take]; omega)] at h
      cases h
  · rw [sl_nil (by omega)] at h
    cases h
/-- Items that stand as in a document. -/
structure Docs (m : List Itm) : Prop where
  next : ∀ j (h : j + 1 < m.length), m[j + 1].level ≤ m[j].level + 1 ∧ (m[j].kind = 2 → m[j + 1].level ≤ m[j].level)
  pos : ∀ j (h : j < m.length), 0 ≤ m[j].level
theorem docs_chain : ∀ (m : List Itm) (p : Itm), chainF (some p) m → (∀ j (h : j < m.length), m[j].level ≤ (if j = 0 then p else m[j - 1]).level + (if (if j = 0 then p else m[j - 1]).kind = 1 then 1 else 0) ∧ 1 ≤ m[j].level)
  | [], _, _, j, h => by simp at h
  | x :: m, p, hc, j, h => by
    obtain ⟨h1, _, h3⟩ := hc
    unfold standsB at h1
    simp only [Bool.and_eq_true, decide_eq_true_eq] at h1
    match j, h with
    | 0, _ => exact ⟨h1.2, h1.1⟩
    | j + 1, h =>
      have := docs_chain m x h3 j (by simpa using h)
      cases j with
      | zero => simpa using this
      | succ j => simpa using this
theorem docs_of {m : List Itm} (h : chainF none m) : Docs m := by
  cases m with
  | nil => exact ⟨fun j h => by simp at h, fun j h => by simp at h⟩
  | cons x m =>
    obtain ⟨h1, _, h3⟩ := h
    have hx : x.level = 0 ∧ x.kind = 1 := by
      unfold standsB at h1
      simpa using h1
    have all := docs_chain m x h3
    refine ⟨fun j h => ?_, fun j h => ?_⟩
    · have h' : j < m.length := by simpa using h
      have a := (all j h').1
      simp only [List.getElem_cons_succ]
      have e : (if j = 0 then x else m[j - 1]) = (x :: m)[j]'(by simp; omega) := by
        cases j with
        | zero => rfl
        | succ j => simp
      rw [e] at a
      generalize (x :: m)[j]'(by simp; omega) = y at *
      refine ⟨?_, fun hk => ?_⟩
      · split at a
        · exact a
        · omega
      · rw [hk] at a
        simpa using a
    · cases j with
      | zero => simp [hx.1]
      | succ j =>
        have := (all j (by simpa using h)).2
        simp only [List.getElem_cons_succ]
        omega
/-- Where what is in an item ends. -/
def eN (m : List Itm) (k : Nat) (z : Int) : Nat := endG m z (k + 1)
theorem eN_facts {m : List Itm} {k : Nat} (hk : k < m.length) : k < eN m k m[k].level ∧ eN m k m[k].level ≤ m.length ∧ (∀ i (h : i < m.length), k < i → i < eN m k m[k].level → m[k].level < m[i].level) ∧ ∀ h : eN m k m[k].level < m.length, m[eN m k m[k].level].level ≤ m[k].level := by
  unfold eN
  refine ⟨by have := endG_ge m m[k].level (k + 1); omega, endG_le m _ _ (by omega), fun i h h1 h2 => endG_in m _ (m.length + 1) (k + 1) i h (by omega) (by omega) h2, fun h => ?_⟩
  rcases Int.lt_or_le m[k].level (m[endG m m[k].level (k + 1)]).level with q | q
  · have := endG_past m m[k].level (m.length + 1) (k + 1) (endG m m[k].level (k + 1) + 1) (by omega) (by have := endG_ge m m[k].level (k + 1); omega) (by omega) (fun j hj a b => by
      rcases Nat.lt_or_ge j (endG m m[k].level (k + 1)) with r | r
      · exact endG_in m _ (m.length + 1) (k + 1) j hj (by omega) a r
      · have : j = endG m m[k].level (k + 1) := by omega
        subst this
        exact q)
    omega
  · exact q
theorem endP_eN {m : List Itm} {k : Nat} (hk : k < m.length) : P.endP m (k : Int) = (eN m k m[k].level : Int) := by
  unfold P.endP endN
  rw [dif_pos ⟨by omega, by omega⟩]
  simp [eN, endG]
/-- What is printed of an item. -/
def itemT (m : List Itm) (k : Nat) (h : k < m.length) (op : List ByteArray) : List UInt8 := itemL m[k] (sl m (k + 1) (eN m k m[k].level)) op
theorem text_leaf {m : List Itm} (D : Docs m) {k : Nat} (hk : k < m.length) (h2 : m[k].kind = 2) : sl m (k + 1) (eN m k m[k].level) = [] := by
  obtain ⟨e1, e2, e3, e4⟩ := eN_facts hk
  apply sl_nil
  rcases Nat.lt_or_ge (k + 1) (eN m k m[k].level) with q | q
  · have a := e3 (k + 1) (by omega) (by omega) q
    have b := (D.next k (by omega)).2 h2
    omega
  · exact q
theorem first_kid {m : List Itm} (D : Docs m) {k : Nat} (hk : k < m.length) (h : k + 1 < eN m k m[k].level) : ∃ h1 : k + 1 < m.length, m[k + 1].level = m[k].level + 1 := by
  obtain ⟨e1, e2, e3, e4⟩ := eN_facts hk
  refine ⟨by omega, ?_⟩
  have a := e3 (k + 1) (by omega) (by omega) h
  have b := (D.next k (by omega)).1
  omega
/-- A kid, and the rest. -/
theorem kid_step {m : List Itm} (D : Docs m) {k j : Nat} (hk : k < m.length) (hj : j < m.length) (h1 : k < j) (h2 : j < eN m k m[k].level) (hl : m[j].level = m[k].level + 1) (op : List ByteArray) (ho : m[j].level = (op.length : Int)) :
    printE (sl m j (eN m k m[k].level)) op op.length = itemT m j hj op ++ printE (sl m (eN m j m[j].level) (eN m k m[k].level)) op op.length ∧ j < eN m j m[j].level ∧ eN m j m[j].level ≤ eN m k m[k].level ∧ (eN m j m[j].level < eN m k m[k].level → ∃ _ : eN m j m[j].level < m.length, m[eN m j m[j].level].level = m[k].level + 1) := by
  obtain ⟨e1, e2, e3, e4⟩ := eN_facts hk
  obtain ⟨d1, d2, d3, d4⟩ := eN_facts hj
  have le : eN m j m[j].level ≤ eN m k m[k].level := by
    rcases Nat.lt_or_ge (eN m k m[k].level) (eN m j m[j].level) with q | q
    · have a := d3 (eN m k m[k].level) (by omega) h2 q
      have b := e4 (by omega)
      omega
    · exact q
  refine ⟨?_, d1, le, fun h => ⟨by omega, ?_⟩⟩
  · rw [sl_cons h2 e2, sl_app (a := j + 1) (c := eN m j m[j].level) (by omega) le e2]
    refine print_item ho (fun y hy => ?_) (fun q => text_leaf D hj q) (fun y hy => ?_) (Nat.le_refl _)
    · obtain ⟨i, hi, a, b, rfl⟩ := sl_mem hy
      exact d3 i hi (by omega) b
    · obtain ⟨hi, a, rfl⟩ := sl_head hy
      exact ⟨D.pos _ _, d4 hi⟩
  · have a := d4 (by omega)
    have b := e3 _ (by omega) (by omega) h
    omega
theorem print_done {op : List ByteArray} : printE [] op op.length = [] := by
  rw [print_nil, close_all (Nat.le_refl _)]
/-- A whole document is its root. -/
theorem print_root {m : List Itm} (D : Docs m) (h : 0 < m.length) (h0 : m[0].level = 0) (h1 : ∀ i (h : i < m.length), 0 < i → 0 < m[i].level) : printF m [] = itemT m 0 h [] := by
  obtain ⟨e1, e2, e3, e4⟩ := eN_facts h
  have e : eN m 0 m[0].level = m.length := by
    rcases Nat.lt_or_ge (eN m 0 m[0].level) m.length with q | q
    · have a := e4 q
      have b := h1 _ q (by omega)
      omega
    · omega
  rw [print_all]
  unfold itemT
  rw [e]
  have es : m = m[0] :: (sl m (0 + 1) m.length ++ []) := by
    have := sl_cons (m := m) (a := 0) (b := m.length) h (Nat.le_refl _)
    rw [List.append_nil, ← this]
    simp [sl]
  conv => lhs; rw [es]
  rw [print_item (op := []) (m := 0) (by rw [h0]; rfl) (fun y hy => ?_) (fun q => ?_) (by simp) (Nat.le_refl _)]
  · rw [print_nil, show closeL [] 0 = [] from rfl, List.append_nil]
  · obtain ⟨i, hi, a, b, rfl⟩ := sl_mem hy
    rw [h0]
    exact h1 i hi (by omega)
  · have := text_leaf D h q
    rw [e] at this
    exact this
end S
end Go.Proofs.YtmnegpdegfianaaDoor
namespace Go.Proofs.YtmnegpdegfianaaDoor
namespace S
open P L G E
theorem parts_bound {x : Itm} (h : partsE x = 0) : x.text.size ≤ 1500 ∧ x.attrs.length ≤ 20 ∧ ∀ a ∈ x.attrs, a.2.size ≤ 1500 := by
  unfold partsE at h
  split at h
  · split at h
    · simp at h
    · rename_i hn
      have hn2 : x.attrs = [] := by by_cases q : x.attrs = []; exact q; exact absurd (Or.inr q) hn
      exact ⟨(unfit_ok h).2, by rw [hn2]; simp, by rw [hn2]; simp⟩
  · split at h
    · simp at h
    · rename_i hn
      have hn2 : x.text = noB := by by_cases q : x.text = noB; exact q; exact absurd (Or.inr q) hn
      split at h
      · simp at h
      · split at h
        · simp at h
        · exact ⟨by rw [hn2]; decide, by omega, fun a ha => (unfit_ok (vals_ok _ h a ha)).2⟩
theorem check_bound : ∀ (l : List Itm) (prev : Option Itm) (k : Nat), checkF prev k l = (0, 0) → (∀ x ∈ l, partsE x = 0) ∧ (l ≠ [] → k + l.length ≤ 1000)
  | [], _, _, _ => ⟨by simp, by simp⟩
  | x :: l, prev, k, h => by
    rw [checkF] at h
    split at h
    · rename_i hi
      simp only [Prod.mk.injEq] at h
      exact absurd h.2 hi
    · rename_i hi
      have hi0 : itemE prev k x = 0 := by simpa using hi
      obtain ⟨_, _, hk, hp⟩ := item_ok hi0
      obtain ⟨h1, h2⟩ := check_bound l _ _ h
      refine ⟨fun y hy => ?_, fun _ => ?_⟩
      · rcases List.mem_cons.1 hy with rfl | hy
        · exact hp
        · exact h1 y hy
      · by_cases hl : l = []
        · subst hl; simp; omega
        · have := h2 hl
          simp only [List.length_cons]
          omega
theorem doc_bound {l : List Itm} (h : checkP l = (0, 0)) : l ≠ [] ∧ l.length ≤ 1000 ∧ ∀ x ∈ l, x.text.size ≤ 1500 ∧ x.attrs.length ≤ 20 ∧ ∀ a ∈ x.attrs, a.2.size ≤ 1500 := by
  unfold checkP at h
  split at h
  · simp at h
  · rename_i hl
    obtain ⟨h1, h2⟩ := check_bound l none 0 h
    exact ⟨hl, by have := h2 hl; omega, fun x hx => parts_bound (h1 x hx)⟩
theorem texts_bound {B : Nat} : ∀ {l : List Itm}, (∀ x ∈ l, x.text.size ≤ B) → (texts l).length ≤ l.length * B
  | [], _ => by simp [texts]
  | x :: l, h => by
    have h1 := h x (List.mem_cons_self ..)
    have h2 := texts_bound (l := l) (fun y hy => h y (List.mem_cons_of_mem _ hy))
    simp only [texts, List.flatMap_cons, List.length_append, Array.length_toList, ByteArray.size_data, List.length_cons] at *
    rw [Nat.add_mul]
    omega
theorem go_texts : ∀ (l : List Itm) (c : Itm), (∀ y ∈ goF c l, y.text.size ≤ c.text.size + (texts l).length ∧ (y.attrs = c.attrs ∨ ∃ x ∈ l, y.attrs = x.attrs))
  | [], c, y, hy => by
    simp only [goF, List.mem_singleton] at hy
    subst hy
    exact ⟨by omega, Or.inl rfl⟩
  | x :: l, c, y, hy => by
    rw [goF] at hy
    split at hy
    · obtain ⟨h1, h2⟩ := go_texts l _ y hy
      refine ⟨?_, ?_⟩
      · simp only [texts, List.flatMap_cons, List.length_append, Array.length_toList, ByteArray.size_data, ByteArray.size_append] at *
        omega
      · rcases h2 with h2 | ⟨z, hz, h2⟩
        · exact Or.inl h2
        · exact Or.inr ⟨z, List.mem_cons_of_mem _ hz, h2⟩
    · rcases List.mem_cons.1 hy with rfl | hy
      · exact ⟨by omega, Or.inl rfl⟩
      · obtain ⟨h1, h2⟩ := go_texts l x y hy
        refine ⟨?_, ?_⟩
        · simp only [texts, List.flatMap_cons, List.length_append, Array.length_toList, ByteArray.size_data] at *
          omega
        · rcases h2 with h2 | ⟨z, hz, h2⟩
          · exact Or.inr ⟨x, List.mem_cons_self .., h2⟩
          · exact Or.inr ⟨z, List.mem_cons_of_mem _ hz, h2⟩
theorem normal_texts {l : List Itm} : ∀ y ∈ normalP l, y.text.size ≤ (texts l).length ∧ ∃ x ∈ l, y.attrs = x.attrs := by
  intro y hy
  unfold normalP at hy
  have hf := texts_filter_le (fun x => !emptyT x) l
  have hm : ∀ x ∈ fullP l, x ∈ l := fun x hx => (List.mem_filter.1 hx).1
  have hf' : (texts (fullP l)).length ≤ (texts l).length := hf
  cases e : fullP l with
  | nil => rw [e] at hy; simp [normP] at hy
  | cons c r =>
    rw [e] at hy hm hf'
    obtain ⟨h1, h2⟩ := go_texts r c y hy
    refine ⟨?_, ?_⟩
    · simp only [texts, List.flatMap_cons, List.length_append, Array.length_toList, ByteArray.size_data] at *
      omega
    · rcases h2 with h2 | ⟨x, hx, h2⟩
      · exact ⟨c, hm c (List.mem_cons_self ..), h2⟩
      · exact ⟨x, hm x (List.mem_cons_of_mem _ hx), h2⟩
theorem doc_pos {m : List Itm} (h : chainF none m) : ∀ i (hi : i < m.length), 0 < i → 0 < m[i].level := by
  cases m with
  | nil => intro i hi; simp at hi
  | cons x m =>
    intro i hi h0
    obtain ⟨i, rfl⟩ : ∃ j, i = j + 1 := ⟨i - 1, by omega⟩
    have := (docs_chain m x h.2.2 i (by simpa using hi)).2
    simp only [List.getElem_cons_succ]
    omega
/-- A document, made normal: all that its print wants. -/
theorem print_wants {l : List Itm} (h : checkP l = (0, 0)) : Docs (normalP l) ∧ (∃ h0 : 0 < (normalP l).length, printF (normalP l) [] = itemT (normalP l) 0 h0 [] ∧ (normalP l)[0].level = 0) ∧ (∀ x ∈ normalP l, x.text.size ≤ 20000000 ∧ ∀ a ∈ x.attrs, a.2.size ≤ 20000000) ∧ (printF (normalP l) []).length ≤ 140737488355328 := by
  obtain ⟨d1, d2, d3, d4, d5⟩ := doc_normal h
  obtain ⟨b1, b2, b3⟩ := doc_bound h
  have ht := texts_bound (B := 1500) (fun x hx => (b3 x hx).1)
  have ht' : (texts l).length ≤ 1500000 := by
    have : l.length * 1500 ≤ 1000 * 1500 := Nat.mul_le_mul_right _ b2
    omega
  have h0 : 0 < (normalP l).length := List.length_pos_iff.2 d4
  have hl0 : (normalP l)[0].level = 0 := d5 _ (by rw [List.head?_eq_getElem?]; exact List.getElem?_eq_getElem h0)
  have D := docs_of d1
  refine ⟨D, ⟨h0, print_root D h0 hl0 (doc_pos d1), hl0⟩, fun x hx => ?_, ?_⟩
  · obtain ⟨t1, y, hy, t2⟩ := normal_texts x hx
    refine ⟨by omega, fun a ha => ?_⟩
    rw [t2] at ha
    have := (b3 y hy).2.2 a ha
    omega
  · rw [print_all]
    have := print_bound 1500000 (normalP l) [] 0 (fun x hx => ⟨(d2 x hx).1, by have := (normal_texts x hx).1; omega⟩) (by simp)
    have hm : (normalP l).length * (181500 + 6 * 1500000) ≤ 1000 * (181500 + 6 * 1500000) := Nat.mul_le_mul_right _ d3
    simp only [List.length_nil] at this
    omega
end S
end Go.Proofs.YtmnegpdegfianaaDoor
namespace Go.Proofs.YtmnegpdegfianaaDoor
namespace S
open P L G E
/-- What is printed, and the error. -/
def printR (m : List Itm) : ByteArray × Int := if (checkP m).2 = 0 then (bA (printF (normalP m) []), 0) else (noB, (checkP m).2)
theorem checkF_zero : ∀ (l : List Itm) (prev : Option Itm) (k : Nat), (checkF prev k l).2 = 0 → checkF prev k l = (0, 0)
  | [], _, _, _ => rfl
  | x :: l, prev, k, h => by
    rw [checkF] at h ⊢
    split at h
    · rename_i q
      exact absurd h q
    · rename_i q
      rw [if_neg q]
      exact checkF_zero l _ _ h
theorem check_zero {m : List Itm} (h : (checkP m).2 = 0) : checkP m = (0, 0) := by
  unfold checkP at h ⊢
  split at h
  · simp at h
  · rename_i q
    rw [if_neg q]
    exact checkF_zero _ _ _ h
theorem printR_ok {m : List Itm} {s : ByteArray} (h : printR m = (s, 0)) : checkP m = (0, 0) ∧ s = bA (printF (normalP m) []) := by
  unfold printR at h
  split at h
  · rename_i q
    simp only [Prod.mk.injEq] at h
    exact ⟨check_zero q, h.1.symm⟩
  · rename_i q
    simp only [Prod.mk.injEq] at h
    exact absurd h.2 q
theorem printR_no {m : List Itm} {s : ByteArray} {b : Int} (h : printR m = (s, b)) (hb : b ≠ 0) : s = noB ∧ checkP m = ((checkP m).1, b) := by
  unfold printR at h
  split at h
  · simp only [Prod.mk.injEq] at h
    exact absurd h.2.symm hb
  · simp only [Prod.mk.injEq] at h
    exact ⟨h.1.symm, by rw [← h.2]⟩
theorem printR_normal {m : List Itm} {s t : ByteArray} (h : printR m = (s, 0)) (h2 : printR (normalP m) = (t, 0)) : s = t := by
  rw [(printR_ok h).2, (printR_ok h2).2, normal_once]
theorem go_from : ∀ (l : List Itm) (c : Itm), ∀ y ∈ goF c l, ∃ x ∈ c :: l, y.level = x.level ∧ y.kind = x.kind ∧ y.name = x.name ∧ y.attrs = x.attrs
  | [], c, y, hy => by
    simp only [goF, List.mem_singleton] at hy
    subst hy
    exact ⟨y, List.mem_cons_self .., rfl, rfl, rfl, rfl⟩
  | x :: l, c, y, hy => by
    rw [goF] at hy
    split at hy
    · obtain ⟨z, hz, h⟩ := go_from l _ y hy
      rcases List.mem_cons.1 hz with rfl | hz
      · exact ⟨c, List.mem_cons_self .., h⟩
      · exact ⟨z, List.mem_cons_of_mem _ (List.mem_cons_of_mem _ hz), h⟩
    · rcases List.mem_cons.1 hy with rfl | hy
      · exact ⟨y, List.mem_cons_self .., rfl, rfl, rfl, rfl⟩
      · obtain ⟨z, hz, h⟩ := go_from l x y hy
        exact ⟨z, List.mem_cons_of_mem _ hz, h⟩
theorem normal_from {l : List Itm} : ∀ y ∈ normalP l, ∃ x ∈ l, y.level = x.level ∧ y.kind = x.kind ∧ y.name = x.name ∧ y.attrs = x.attrs := by
  intro y hy
  have hm : ∀ x ∈ fullP l, x ∈ l := fun x hx => (List.mem_filter.1 hx).1
  unfold normalP at hy
  cases e : fullP l with
  | nil => rw [e] at hy; simp [normP] at hy
  | cons c r =>
    rw [e] at hy hm
    obtain ⟨x, hx, h⟩ := go_from r c y hy
    exact ⟨x, hm x hx, h⟩
theorem go_sum : ∀ (l : List Itm) (c : Itm), (texts (goF c l)).length = c.text.size + (texts l).length
  | [], c => by simp [goF, texts]
  | x :: l, c => by
    rw [goF]
    split
    · rw [go_sum l]
      simp only [texts, List.flatMap_cons, List.length_append, Array.length_toList, ByteArray.size_data, ByteArray.size_append]
      omega
    · have := go_sum l x
      simp only [texts, List.flatMap_cons, List.length_append, Array.length_toList, ByteArray.size_data] at *
      omega
theorem normal_sum (l : List Itm) : (texts (normalP l)).length ≤ (texts l).length := by
  have hf : (texts (fullP l)).length ≤ (texts l).length := texts_filter_le _ _
  unfold normalP
  cases e : fullP l with
  | nil => simp [normP, texts]
  | cons c r =>
    rw [e] at hf
    rw [normP, go_sum]
    simp only [texts, List.flatMap_cons, List.length_append, Array.length_toList, ByteArray.size_data] at *
    omega
theorem normal_len (l : List Itm) : (normalP l).length ≤ l.length := by
  have hf : (fullP l).length ≤ l.length := List.length_filter_le _ _
  unfold normalP
  cases e : fullP l with
  | nil => simp [normP]
  | cons c r =>
    rw [e] at hf
    have := go_len r c
    rw [normP]
    simp only [List.length_cons] at hf
    omega
end S
end Go.Proofs.YtmnegpdegfianaaDoor
