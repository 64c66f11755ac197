/- Plain: in a document each item but the root is in an element whose level is less by one, and ends ahead of it; what was read is a document whose parts may be. -/
import Derived.Test.YtmnegpdegfianaaDoorPCheck
namespace Go.Proofs.YtmnegpdegfianaaDoor
namespace P
open L G
/-- A row in which all stand as they may. -/
theorem check_all : ∀ (l : List Itm) (prev : Option Itm) (k : Nat), checkF prev k l = (0, 0) → ∀ j (h : j < l.length), itemE (if j = 0 then prev else l[j - 1]?) (k + j) l[j] = 0
  | [], _, _, _, j, h => by simp at h
  | a :: l, prev, k, hc, j, h => by
    have ha : itemE prev k a = 0 := by
      unfold checkF at hc
      split at hc
      · rename_i h1
        simp only [Prod.mk.injEq] at hc
        exact absurd hc.2 h1
      · rename_i h1
        simpa using h1
    have hc' : checkF (some a) (k + 1) l = (0, 0) := by
      unfold checkF at hc
      rwa [if_neg (by simp [ha])] at hc
    match j, h with
    | 0, _ => simpa using ha
    | j + 1, h =>
      have := check_all l (some a) (k + 1) hc' j (by simpa using h)
      rw [if_neg (by omega), show k + (j + 1) = k + 1 + j by omega]
      simp only [Nat.add_sub_cancel, List.getElem_cons_succ]
      cases j with
      | zero => simpa using this
      | succ j => simpa using this
structure Doc (l : List Itm) : Prop where
  root : ∀ h : 0 < l.length, l[0].level = 0 ∧ l[0].kind = 1
  next : ∀ j (h : j + 1 < l.length), 1 ≤ l[j + 1].level ∧ l[j + 1].level ≤ l[j].level + (if l[j].kind = 1 then 1 else 0)
  low : ∀ j (h : j < l.length), l[j].level < 40
theorem doc_of {l : List Itm} (h : checkP l = (0, 0)) : Doc l ∧ l ≠ [] := by
  unfold checkP at h
  split at h
  · simp at h
  · rename_i hl
    have all := check_all l none 0 h
    refine ⟨⟨fun h0 => ?_, fun j hj => ?_, fun j hj => (item_ok (all j hj)).2.1⟩, hl⟩
    · have := (item_ok (all 0 h0)).1
      simpa [standsB] using this
    · have := (item_ok (all (j + 1) hj)).1
      rw [if_neg (by omega), Nat.add_sub_cancel, List.getElem?_eq_getElem (by omega)] at this
      simpa [standsB] using this
theorem down_spec (l : List Itm) (z : Int) : ∀ k, k ≤ l.length → (downF l z k = -1 ∧ ∀ j (h : j < l.length), j < k → z ≤ l[j].level) ∨ ∃ p : Nat, ∃ h : p < l.length, downF l z k = (p : Int) ∧ p < k ∧ l[p].level < z ∧ ∀ j (h : j < l.length), p < j → j < k → z ≤ l[j].level
  | 0, _ => Or.inl ⟨rfl, fun j _ h => by omega⟩
  | k + 1, hk => by
    have hk' : k < l.length := by omega
    by_cases hz : l[k].level < z
    · exact Or.inr ⟨k, hk', down_yes hk' hz, by omega, hz, fun j _ h1 h2 => by omega⟩
    · rw [down_no hk' hz]
      rcases down_spec l z k (by omega) with ⟨h1, h2⟩ | ⟨p, hp, h1, h2, h3, h4⟩
      · exact Or.inl ⟨h1, fun j hj hlt => by
          rcases Nat.lt_succ_iff_lt_or_eq.1 hlt with h | rfl
          · exact h2 j hj h
          · omega⟩
      · exact Or.inr ⟨p, hp, h1, by omega, h3, fun j hj h5 h6 => by
          rcases Nat.lt_succ_iff_lt_or_eq.1 h6 with h | rfl
          · exact h4 j hj h5 h
          · omega⟩
theorem endG_ge (l : List Itm) (z : Int) (to : Nat) : to ≤ endG l z to := by unfold endG; omega
theorem endG_le (l : List Itm) (z : Int) (to : Nat) (h : to ≤ l.length) : endG l z to ≤ l.length := by
  unfold endG
  have h1 := (List.takeWhile_prefix (fun x : Itm => decide (z < x.level)) (l := l.drop to)).length_le
  simp only [List.length_drop] at h1
  omega
theorem endG_in (l : List Itm) (z : Int) : ∀ (n to j : Nat) (hj : j < l.length), j - to < n → to ≤ j → j < endG l z to → z < l[j].level
  | 0, _, _, _, h, _, _ => by omega
  | n + 1, to, j, hj, h0, h1, h2 => by
    have ht : to < l.length := by omega
    by_cases hz : z < l[to].level
    · rcases Nat.eq_or_lt_of_le h1 with rfl | h3
      · exact hz
      · rw [endG_yes ht hz] at h2
        exact endG_in l z n (to + 1) j hj (by omega) (by omega) h2
    · rw [endG_no ht hz] at h2
      omega
/-- What lies above a level up to a place is ahead of the end. -/
theorem endG_past (l : List Itm) (z : Int) : ∀ (n to m : Nat), m - to ≤ n → to ≤ m → m ≤ l.length → (∀ j (h : j < l.length), to ≤ j → j < m → z < l[j].level) → m ≤ endG l z to
  | 0, to, m, h0, h1, _, _ => by
    have : to = m := by omega
    subst this
    exact endG_ge l z to
  | n + 1, to, m, h0, h1, h2, h3 => by
    rcases Nat.eq_or_lt_of_le h1 with rfl | h4
    · exact endG_ge l z _
    · have ht : to < l.length := by omega
      rw [endG_yes ht (h3 to ht (Nat.le_refl _) h4)]
      exact endG_past l z n (to + 1) m (by omega) (by omega) h2 (fun j hj a b => h3 j hj (by omega) b)
theorem shape_root {l : List Itm} (d : Doc l) (h : 0 < l.length) : parentP l 0 = -1 ∧ endP l 0 = (l.length : Int) := by
  have h' : (0 : Int) ≤ 0 ∧ (0 : Int) < (l.length : Int) := ⟨by omega, by omega⟩
  refine ⟨by unfold parentP; rw [dif_pos h']; rfl, ?_⟩
  unfold endP
  rw [dif_pos h']
  have h1 : endN l 0 l[0].level = l.length := by
    have h2 : endN l 0 l[0].level = endG l l[0].level 1 := rfl
    rw [h2]
    apply Nat.le_antisymm (endG_le l _ 1 (by omega))
    refine endG_past l _ l.length 1 l.length (by omega) (by omega) (Nat.le_refl _) (fun j hj a _ => ?_)
    obtain ⟨j, rfl⟩ : ∃ q, j = q + 1 := ⟨j - 1, by omega⟩
    have := (d.next j hj).1
    have := (d.root h).1
    omega
  exact congrArg _ h1
theorem shape_next {l : List Itm} (d : Doc l) (k : Nat) (hk : k < l.length) (h0 : k ≠ 0) : ∃ p : Nat, ∃ hp : p < l.length, parentP l (k : Int) = (p : Int) ∧ l[p].kind = 1 ∧ l[p].level = l[k].level - 1 ∧ endP l (k : Int) ≤ endP l (p : Int) := by
  have hk' : (0 : Int) ≤ (k : Int) ∧ (k : Int) < (l.length : Int) := ⟨by omega, by omega⟩
  have e1 : parentP l (k : Int) = downF l l[k].level k := by unfold parentP; rw [dif_pos hk']; simp
  have l1 : 1 ≤ l[k].level := by
    obtain ⟨j, rfl⟩ : ∃ q, k = q + 1 := ⟨k - 1, by omega⟩
    exact (d.next j hk).1
  rcases down_spec l l[k].level k (by omega) with ⟨_, h2⟩ | ⟨p, hp, h1, h2, h3, h4⟩
  · have := h2 0 (by omega) (by omega)
    have := (d.root (by omega)).1
    omega
  · have hn := d.next p (by omega)
    have ge : l[k].level ≤ l[p + 1].level := by
      rcases Nat.lt_or_ge (p + 1) k with h5 | h5
      · exact h4 (p + 1) (by omega) (by omega) h5
      · have : p + 1 = k := by omega
        subst this
        exact Int.le_refl _
    have k1 : l[p].kind = 1 := by
      by_cases hq : l[p].kind = 1
      · exact hq
      · rw [if_neg hq] at hn
        omega
    rw [if_pos k1] at hn
    refine ⟨p, hp, by rw [e1, h1], k1, by omega, ?_⟩
    have e2 : endP l (k : Int) = (endG l l[k].level (k + 1) : Int) := by unfold endP endN; rw [dif_pos hk']; simp [endG]
    have e3 : endP l (p : Int) = (endG l l[p].level (p + 1) : Int) := by unfold endP endN; rw [dif_pos ⟨by omega, by omega⟩]; simp [endG]
    rw [e2, e3]
    have := endG_past l l[p].level l.length (p + 1) (endG l l[k].level (k + 1)) (by have := endG_le l l[k].level (k + 1) (by omega); omega) (by have := endG_ge l l[k].level (k + 1); omega) (endG_le l _ _ (by omega)) (fun j hj a b => by
      rcases Nat.lt_or_ge j (k + 1) with h5 | h5
      · rcases Nat.lt_or_ge j k with h6 | h6
        · have := h4 j hj (by omega) h6
          omega
        · have : j = k := by omega
          subst this
          exact h3
      · have := endG_in l l[k].level l.length (k + 1) j hj (by omega) h5 b
        omega)
    omega
theorem rise_of : ∀ (l : List L.Attr) (p : ByteArray), Rise l → (∀ a ∈ l, okA a) → (∀ a, l.head? = some a → ltB p a.1 = true) → riseF p l = true
  | [], _, _, _, _ => rfl
  | a :: l, p, h, ok, hp => by
    have h1 : nameP a.1 = true := (ok a (List.mem_cons_self ..)).1
    have h2 := hp a rfl
    rw [rise_cons, h1, h2]
    simp only [Bool.true_and]
    refine rise_of l a.1 h.2 (fun x hx => ok x (List.mem_cons_of_mem _ hx)) (fun x hx => ?_)
    cases l with
    | nil => cases hx
    | cons y l =>
      simp only [List.head?_cons, Option.some.injEq] at hx
      subst hx
      exact h.1 _ (List.mem_cons_self ..)
theorem name_ne {b : ByteArray} (h : nameP b = true) : ltB noB b = true := by
  unfold ltB
  have : b.data.toList ≠ [] := by
    intro q
    unfold nameP at h
    rw [q] at h
    revert h
    decide
  cases hb : b.data.toList with
  | nil => exact absurd hb this
  | cons x l => simp [noB]
theorem vals_of : ∀ (l : List L.Attr), (∀ a ∈ l, okA a) → valsE l = 0
  | [], _ => rfl
  | a :: l, h => by
    have h1 := h a (List.mem_cons_self ..)
    have h2 : unfitE a.2 = 0 := by
      unfold unfitE
      rw [if_neg h1.2.1, if_neg (by have := h1.2.2; omega)]
    rw [vals_cons, if_neg (by simp [h2])]
    exact vals_of l (fun x hx => h x (List.mem_cons_of_mem _ hx))
theorem parts_of {t : Tok} {n : Nat} (ok : okT t) : partsE (itemOf n t) = 0 := by
  obtain ⟨k1, k2, k3, k4, k5, k6, k7, k8⟩ := ok
  unfold itemOf
  by_cases h4 : t.kind = 4
  · rw [if_pos h4]
    unfold partsE
    rw [if_pos rfl, if_neg (by simp)]
    unfold unfitE
    rw [if_neg k4, if_neg (by dsimp only; omega)]
  · rw [if_neg h4]
    have hn : nameP t.name = true := k2 (by omega)
    have hr : riseF noB t.attrs = true := rise_of t.attrs noB k8 k7 (fun a ha => name_ne (k7 a (List.mem_of_mem_head? ha)).1)
    unfold partsE
    dsimp only
    rw [if_neg (by decide), if_neg (by simp), if_neg (by simp [hn, hr]), if_neg (by omega)]
    exact vals_of _ k7
/-- What is kept while a text is read. -/
structure Goes (its : List Itm) (op : List ByteArray) : Prop where
  ok : checkF none 0 its = (0, 0)
  top : ∀ x, its.getLast? = some x → (op.length : Int) ≤ x.level + (if x.kind = 1 then 1 else 0)
  nil : its = [] → op = []
theorem goes_take {its its' : List Itm} {op op' : List ByteArray} {t : Tok} (g : Goes its op) (ok : okT t) (h : takeP its op t = .ok (its', op')) : Goes its' op' := by
  unfold takeP at h
  split at h
  · split at h
    · simp only [Except.ok.injEq, Prod.mk.injEq] at h
      obtain ⟨rfl, rfl⟩ := h
      refine ⟨g.ok, fun x hx => ?_, fun hx => by rw [g.nil hx]; rfl⟩
      have := g.top x hx
      simp only [List.length_dropLast]
      omega
    · cases h
  · split at h
    · cases h
    · rename_i ha
      have ha' : addE its.length (itemOf op.length t) = 0 := by simpa using ha
      simp only [Except.ok.injEq, Prod.mk.injEq] at h
      obtain ⟨rfl, rfl⟩ := h
      have lv : (itemOf op.length t).level = (op.length : Int) := by unfold itemOf; split <;> rfl
      have kd : (itemOf op.length t).kind = if t.kind = 4 then 2 else 1 := by unfold itemOf; split <;> rfl
      unfold addE at ha'
      split at ha'
      · simp at ha'
      · rename_i h1
        split at ha'
        · simp at ha'
        · rename_i h2
          split at ha'
          · simp at ha'
          · rename_i h3
            refine ⟨check_snoc its none 0 _ g.ok (item_mk ?_ (by omega) (by omega) (parts_of ok)), fun x hx => ?_, fun hx => by simp at hx⟩
            · cases hl : its.getLast? with
              | none =>
                have ho : op.length = 0 := by rw [g.nil (List.getLast?_eq_none_iff.1 hl)]; rfl
                have hk1 : (itemOf op.length t).kind = 1 := by
                  rw [kd]
                  split
                  · rename_i h4
                    exact absurd ⟨by rw [lv, ho]; rfl, Or.inr (by rw [kd, if_pos h4])⟩ h1
                  · rfl
                have e : lastO none its = none := by simp [lastO, hl]
                rw [e]
                show (decide ((itemOf op.length t).level = 0) && decide ((itemOf op.length t).kind = 1)) = true
                rw [lv, hk1, ho]
                rfl
              | some y =>
                have ht := g.top y hl
                have hne : its.length ≠ 0 := by
                  intro q
                  rw [List.length_eq_zero_iff.1 q] at hl
                  cases hl
                have h5 : (itemOf op.length t).level ≠ 0 := fun q => h1 ⟨q, Or.inl hne⟩
                simp only [lastO, hl, standsB]
                rw [lv] at h5 ⊢
                simp only [Bool.and_eq_true, decide_eq_true_eq]
                exact ⟨by omega, ht⟩
            · rw [List.getLast?_append] at hx
              simp only [List.getLast?_singleton, Option.some_or, Option.some.injEq] at hx
              subst hx
              rw [lv, kd]
              split
              · rename_i h1k
                have h4 : ¬ t.kind = 4 := by omega
                simp [h4]
              · by_cases h4 : t.kind = 4
                · simp [h4]
                · simp only [h4, if_false, if_true]
                  omega
theorem goes_parse (s : ByteArray) : ∀ (f i : Nat) (its l : List Itm) (op : List ByteArray), s.size - i < f → i ≤ s.size → Goes its op → parseF f s i its op = .ok l → checkP l = (0, 0)
  | 0, _, _, _, _, h, _, _, _ => by omega
  | f + 1, i, its, l, op, hf, hi, g, h => by
    by_cases hlt : i < s.size
    · cases ho : oneN s i with
      | error e => rw [parse_bad (by omega) hlt ho] at h; cases h
      | ok r =>
        obtain ⟨t, n⟩ := r
        cases ht : takeP its op t with
        | error e => rw [parse_no (by omega) hlt ho ht] at h; cases h
        | ok r =>
          obtain ⟨its', op'⟩ := r
          rw [parse_next (by omega) hlt ho ht] at h
          have hn := one_go hlt ho
          exact goes_parse s f n its' l op' (by omega) hn.2 (goes_take g (one_may hlt ho).1 ht) h
    · rw [parse_end (by omega) (by omega)] at h
      split at h
      · cases h
      · rename_i h0
        split at h
        · cases h
        · simp only [Except.ok.injEq] at h
          subst h
          unfold checkP
          rw [if_neg (by intro q; rw [q] at h0; exact h0 rfl)]
          exact g.ok
/-- What was read is a document whose parts may be. -/
theorem parse_right {s : ByteArray} {l : List Itm} (h : parseP s = .ok l) : checkP l = (0, 0) :=
  goes_parse s (s.size + 1) 0 [] l [] (by omega) (by omega) ⟨rfl, fun x hx => (by cases hx), fun _ => rfl⟩ h
theorem check_zero : ∀ (l : List Itm) (prev : Option Itm) (k : Nat) {a : Int}, checkF prev k l = (a, 0) → a = 0
  | [], _, _, _, h => by simp only [checkF, Prod.mk.injEq] at h; exact h.1.symm
  | x :: l, prev, k, a, h => by
    rw [check_cons] at h
    split at h
    · rename_i h1
      simp only [Prod.mk.injEq] at h
      exact absurd h.2 h1
    · exact check_zero l _ _ h
theorem name_len {b : ByteArray} (h : nameP b = true) : b.size ≤ 60 := by
  unfold nameP nameB at h
  simp only [Bool.and_eq_true, decide_eq_true_eq] at h
  simpa using h.1.1
theorem rise_names : ∀ (l : List L.Attr) (p : ByteArray), riseF p l = true → ∀ a ∈ l, nameP a.1 = true
  | [], _, _, a, h => by cases h
  | x :: l, p, h, a, ha => by
    rw [rise_cons] at h
    simp only [Bool.and_eq_true] at h
    rcases List.mem_cons.1 ha with rfl | ha
    · exact h.1.1
    · exact rise_names l x.1 h.2 a ha
theorem unfit_size {b : ByteArray} (h : unfitE b = 0) : b.size ≤ 1500 := by
  unfold unfitE at h
  split at h
  · simp at h
  · split at h
    · simp at h
    · omega
theorem vals_sizes : ∀ (l : List L.Attr), valsE l = 0 → ∀ a ∈ l, a.2.size ≤ 1500
  | [], _, a, h => by cases h
  | x :: l, h, a, ha => by
    rw [vals_cons] at h
    split at h
    · rename_i h1
      exact absurd h h1
    · rename_i h1
      rcases List.mem_cons.1 ha with rfl | ha
      · exact unfit_size (by simpa using h1)
      · exact vals_sizes l h a ha
theorem fit_parts {x : Itm} (h : partsE x = 0) (h1 : -9223372036854775808 ≤ x.level) (h2 : x.level < 40) : FitC x := by
  have hk := parts_kind h
  refine ⟨⟨h1, by omega⟩, ⟨by omega, by omega⟩, ?_⟩
  unfold maxLen
  unfold partsE at h
  split at h
  · split at h
    · simp at h
    · rename_i h3
      have hn : x.name = noB := by by_cases q : x.name = noB; exact q; exact absurd (Or.inl q) h3
      have ha : x.attrs = [] := by by_cases q : x.attrs = []; exact q; exact absurd (Or.inr q) h3
      have := unfit_size h
      rw [hn, ha]
      exact ⟨by decide, by omega, by simp⟩
  · split at h
    · simp at h
    · rename_i h3
      have ht : x.text = noB := by by_cases q : x.text = noB; exact q; exact absurd (Or.inr q) h3
      split at h
      · simp at h
      · rename_i h4
        have hn : nameP x.name = true := by cases q : nameP x.name; exact absurd (Or.inl q) h4; rfl
        have hr : riseF noB x.attrs = true := by cases q : riseF noB x.attrs; exact absurd (Or.inr q) h4; rfl
        split at h
        · simp at h
        · rw [ht]
          have := name_len hn
          refine ⟨by omega, by decide, fun a ha => ?_⟩
          have := name_len (rise_names _ _ hr a ha)
          have := vals_sizes _ h a ha
          exact ⟨by omega, by omega⟩
theorem fit_of {l : List Itm} (h : checkP l = (0, 0)) : ∀ x ∈ l, FitC x := by
  obtain ⟨d, hl⟩ := doc_of h
  intro x hx
  obtain ⟨j, hj, rfl⟩ := List.getElem_of_mem hx
  have all := check_all l none 0 (by unfold checkP at h; rwa [if_neg hl] at h) j hj
  refine fit_parts (item_ok all).2.2.2 ?_ (item_ok all).2.1
  rcases Nat.eq_zero_or_pos j with rfl | hp
  · have := (d.root hj).1
    omega
  · obtain ⟨j, rfl⟩ : ∃ q, j = q + 1 := ⟨j - 1, by omega⟩
    have := (d.next j hj).1
    omega
end P
end Go.Proofs.YtmnegpdegfianaaDoor
