/- Plain mathematics for layer pathq: what was read may be; places lie in the query, or at its end. No program is spoken of here. -/
import Derived.Test.YtmgemdhpjibdiaaDoorQSteps
namespace Go.Proofs.YtmgemdhpjibdiaaDoor
namespace Q
open L G E S
/-- What was told of a place on: something that holds, and a place behind; or a place of what is amiss. -/
def Told {α : Type} (q : ByteArray) (i : Nat) (ok : α → Prop) : Except Bad (α × Nat) → Prop
  | .error (z, e) => 0 ≤ z ∧ z ≤ (q.size : Int) ∧ e ≠ 0
  | .ok (a, n) => i ≤ n ∧ n ≤ q.size ∧ ok a
theorem there_le {q : ByteArray} {i : Nat} {t : List UInt8} (hi : i ≤ q.size) (h : thereB q i t = true) : i + t.length ≤ q.size := by have := there_len h; omega
theorem name_le' : ∀ (f : Nat) (l : List UInt8), nameF f l ≤ l.length
  | 0, _ => Nat.zero_le _
  | f + 1, l => by
    unfold nameF
    split
    · exact Nat.zero_le _
    · have h1 := next_le l
      have h2 := name_le' f (l.drop (nextL l).2)
      rw [List.length_drop] at h2
      omega
theorem nameEnd_le {q : ByteArray} {i : Nat} (h : i ≤ q.size) : i ≤ nameEnd q i ∧ nameEnd q i ≤ q.size := by
  unfold nameEnd
  have := name_le' (q.size + 1) (q.data.toList.drop i)
  rw [List.length_drop, Array.length_toList, ByteArray.size_data] at this
  omega
theorem undoF_placeQ (v : Bool) : ∀ (f o : Nat) (acc l r : List UInt8) (k : Nat) (e : Int), E.undoF v f o acc l = (r, k, e) → k ≤ o + l.length
  | 0, o, acc, l, r, k, e, h => by
    simp only [E.undoF, Prod.mk.injEq] at h
    omega
  | f + 1, o, acc, l, r, k, e, h => by
    unfold E.undoF at h
    split at h
    · simp only [Prod.mk.injEq] at h; omega
    · split at h
      · simp only [Prod.mk.injEq] at h; omega
      · rename_i hs
        have := undoF_placeQ v f _ _ _ r k e h
        have h2 := (E.step_ok v l (by simpa using hs)).2.1
        simp at this
        omega
theorem undo_placeQ (v : Bool) (b : ByteArray) : (undoB v b).2.1 ≤ b.size := by
  have h := undoF_placeQ v (b.data.toList.length + 1) 0 [] b.data.toList (undoL v b.data.toList).1 (undoL v b.data.toList).2.1 (undoL v b.data.toList).2.2 rfl
  have e : b.data.toList.length = b.size := by simp
  rw [e] at h
  show (undoL v b.data.toList).2.1 ≤ b.size
  omega
theorem value_told {q : ByteArray} {i : Nat} (h : i ≤ q.size) : Told q i (fun v => ¬ countZ v.data.toList < 0) (valueQ q i) := by
  unfold valueQ
  simp only
  split
  · exact ⟨by omega, by show ((i : Nat) : Int) ≤ _; omega, by decide⟩
  · rename_i h1
    have ht : thereB q i [34] = true := by simpa using h1
    have hl := there_le h ht
    simp only [List.length_cons, List.length_nil, Nat.zero_add] at hl
    have r1 := run_ge (notB 34) q (i + 1)
    have r2 := run_le (p := notB 34) hl
    split
    · exact ⟨by omega, by show ((runP (notB 34) q (i + 1) : Nat) : Int) ≤ _; omega, by decide⟩
    · split
      · rename_i h2 h3
        refine ⟨by omega, ?_, h3⟩
        have hb : (undoB true (q.extract (i + 1) (runP (notB 34) q (i + 1)))).2.1 ≤ (q.extract (i + 1) (runP (notB 34) q (i + 1))).size := undo_placeQ _ _
        have hs : (q.extract (i + 1) (runP (notB 34) q (i + 1))).size ≤ runP (notB 34) q (i + 1) - (i + 1) := by
          rw [ByteArray.size_extract]
          omega
        show ((i + 1 + (undoB true (q.extract (i + 1) (runP (notB 34) q (i + 1)))).2.1 : Nat) : Int) ≤ _
        omega
      · rename_i h2 h3
        have h4 : (undoB true (q.extract (i + 1) (runP (notB 34) q (i + 1)))).2.2 = 0 := by simpa using h3
        obtain ⟨ys, hy, _⟩ := undo_chars _ _ h4
        exact ⟨by omega, by omega, count_of hy⟩
theorem num_bounds : ∀ (l : List UInt8) (a : Int), (∀ c ∈ l, digitB c = true) → 0 ≤ a → a * 10 ^ l.length ≤ l.foldl (fun a c => a * 10 + ((c.toNat : Int) - 48)) a ∧ l.foldl (fun a c => a * 10 + ((c.toNat : Int) - 48)) a < (a + 1) * 10 ^ l.length
  | [], a, _, _ => by simp; omega
  | c :: l, a, h, ha => by
    have hc := h c (List.mem_cons_self ..)
    unfold digitB at hc
    simp only [Bool.and_eq_true, decide_eq_true_eq] at hc
    obtain ⟨i1, i2⟩ := num_bounds l (a * 10 + ((c.toNat : Int) - 48)) (fun z hz => h z (List.mem_cons_of_mem _ hz)) (by omega)
    have hp : (0 : Int) < 10 ^ l.length := Int.pow_pos (by decide)
    rw [List.foldl_cons, List.length_cons, Int.pow_succ]
    constructor
    · refine Int.le_trans ?_ i1
      have : a * (10 ^ l.length * 10) = (a * 10) * 10 ^ l.length := by rw [Int.mul_comm (10 ^ l.length) 10, Int.mul_assoc]
      rw [this]
      exact Int.mul_le_mul_of_nonneg_right (by omega) (by omega)
    · refine Int.lt_of_lt_of_le i2 ?_
      have : (a + 1) * (10 ^ l.length * 10) = ((a + 1) * 10) * 10 ^ l.length := by rw [Int.mul_comm (10 ^ l.length) 10, Int.mul_assoc]
      rw [this]
      exact Int.mul_le_mul_of_nonneg_right (by omega) (by omega)
theorem number_told {q : ByteArray} {i : Nat} (h : i ≤ q.size) : Told q i rightP (numberQ q i) := by
  unfold numberQ
  simp only
  have r1 := run_ge digitB q i
  have r2 := run_le (p := digitB) h
  split
  · exact ⟨by omega, by show ((i : Nat) : Int) ≤ _; omega, by decide⟩
  · rename_i h1
    have hne : runP digitB q i ≠ i := fun e => h1 (Or.inl e)
    have hle : ¬ 4 < runP digitB q i - i := fun e => h1 (Or.inr (Or.inl e))
    have h48 : thereB q i [48] = false := by
      cases e : thereB q i [48] with
      | false => rfl
      | true => exact absurd (Or.inr (Or.inr e)) h1
    refine ⟨by omega, r2, Or.inl ⟨rfl, ?_, ?_, rfl, rfl⟩⟩
    all_goals
      have ed : (q.extract i (runP digitB q i)).data.toList = (q.data.toList.drop i).take (runP digitB q i - i) := Lib.extract_data _ _ _
      have et : (q.data.toList.drop i).take (runP digitB q i - i) = (q.data.toList.drop i).takeWhile digitB := by
        have : runP digitB q i - i = ((q.data.toList.drop i).takeWhile digitB).length := by unfold runP; omega
        rw [this]
        exact (List.prefix_iff_eq_take.1 (List.takeWhile_prefix digitB)).symm
      have hall : ∀ c ∈ (q.data.toList.drop i).takeWhile digitB, digitB c = true := fun c hc => List.all_eq_true.1 List.all_takeWhile c hc
      have hlen : ((q.data.toList.drop i).takeWhile digitB).length = runP digitB q i - i := by unfold runP; omega
      show _ ≤ _
      simp only
      rw [ed, et]
      unfold numL
    · have hi : i < q.size := by omega
      have hd := drop_at q i hi
      have hc : digitB q[i] = true := by
        cases e : digitB q[i] with
        | true => rfl
        | false => exact absurd (run_no hi e) hne
      rw [hd, List.takeWhile_cons_of_pos hc] at hall ⊢
      have hc2 := hc
      unfold digitB at hc2
      simp only [Bool.and_eq_true, decide_eq_true_eq] at hc2
      have hn48 : q[i] ≠ 48 := by
        rw [there1 q i 48 hi] at h48
        intro e
        rw [e] at h48
        cases h48
      have h49 : 49 ≤ q[i].toNat := by
        rcases Nat.lt_or_ge 48 q[i].toNat with r | r
        · omega
        · exfalso
          apply hn48
          apply UInt8.toNat_inj.1
          show q[i].toNat = 48
          omega
      rw [List.foldl_cons]
      have nb := (num_bounds ((q.data.toList.drop (i + 1)).takeWhile digitB) (0 * 10 + ((q[i].toNat : Int) - 48)) (fun z hz => hall z (List.mem_cons_of_mem _ hz)) (by omega)).1
      refine Int.le_trans ?_ nb
      have hp : (0 : Int) < 10 ^ ((q.data.toList.drop (i + 1)).takeWhile digitB).length := Int.pow_pos (by decide)
      have : (1 : Int) * 1 ≤ (0 * 10 + ((q[i].toNat : Int) - 48)) * 10 ^ ((q.data.toList.drop (i + 1)).takeWhile digitB).length := Int.mul_le_mul (by omega) (by omega) (by decide) (by omega)
      omega
    · have nb := (num_bounds ((q.data.toList.drop i).takeWhile digitB) 0 hall (by decide)).2
      have hk : ((q.data.toList.drop i).takeWhile digitB).length = 1 ∨ ((q.data.toList.drop i).takeWhile digitB).length = 2 ∨ ((q.data.toList.drop i).takeWhile digitB).length = 3 ∨ ((q.data.toList.drop i).takeWhile digitB).length = 4 := by omega
      rcases hk with e | e | e | e <;> rw [e] at nb <;> simp only [Int.reducePow, Int.zero_add, Int.one_mul] at nb <;> omega
theorem pred_told {q : ByteArray} {i : Nat} (h : i ≤ q.size) : Told q i rightP (predQ q i) := by
  unfold predQ
  split
  · rename_i h1
    have := there_le h h1
    exact ⟨by omega, this, Or.inr (Or.inl ⟨rfl, rfl, rfl, rfl⟩)⟩
  · split
    · rename_i h1
      have hl : i + 6 ≤ q.size := there_le h h1
      split
      · exact ⟨by omega, by show ((i + 6 : Nat) : Int) ≤ _; omega, by decide⟩
      · rename_i h2
        have h2' : thereB q (i + 6) [61] = true := by simpa using h2
        have hl2 : i + 6 + 1 ≤ q.size := there_le hl h2'
        have hv := value_told (q := q) (i := i + 7) hl2
        cases hq : valueQ q (i + 7) with
        | error e => rw [hq] at hv; exact hv
        | ok p =>
          obtain ⟨v, n⟩ := p
          rw [hq] at hv
          exact ⟨by have := hv.1; omega, hv.2.1, Or.inr (Or.inr (Or.inr (Or.inr ⟨rfl, rfl, rfl, hv.2.2⟩)))⟩
    · split
      · exact number_told h
      · rename_i h1
        have h1' : thereB q i [64] = true := by simpa using h1
        have hl : i + 1 ≤ q.size := there_le h h1'
        obtain ⟨n1, n2⟩ := nameEnd_le hl
        simp only
        split
        · exact ⟨by omega, by show ((i + 1 : Nat) : Int) ≤ _; omega, by decide⟩
        · rename_i h2
          have h2' : nameP (q.extract (i + 1) (nameEnd q (i + 1))) = true := by simpa using h2
          split
          · exact ⟨by omega, n2, Or.inr (Or.inr (Or.inl ⟨rfl, rfl, h2', rfl⟩))⟩
          · rename_i h3
            have h3' : thereB q (nameEnd q (i + 1)) [61] = true := by simpa using h3
            have hl2 : nameEnd q (i + 1) + 1 ≤ q.size := there_le n2 h3'
            have hv := value_told (q := q) hl2
            cases hq : valueQ q (nameEnd q (i + 1) + 1) with
            | error e => rw [hq] at hv; exact hv
            | ok p =>
              obtain ⟨v, n⟩ := p
              rw [hq] at hv
              exact ⟨by have := hv.1; omega, hv.2.1, Or.inr (Or.inr (Or.inr (Or.inl ⟨rfl, rfl, h2', hv.2.2⟩)))⟩
theorem preds_told {q : ByteArray} : ∀ (f i : Nat) (acc : List Pred), i ≤ q.size → (∀ p ∈ acc, rightP p) → acc.length ≤ 5 → Told q i (fun l => (∀ p ∈ l, rightP p) ∧ l.length ≤ 5) (predsF f q i acc)
  | 0, i, acc, h, ha, hl => ⟨Nat.le_refl _, h, ha, hl⟩
  | f + 1, i, acc, h, ha, hl => by
    unfold predsF
    split
    · exact ⟨Nat.le_refl _, h, ha, hl⟩
    · rename_i h1
      have h1' : thereB q i [91] = true := by simpa using h1
      have hl1 : i + 1 ≤ q.size := there_le h h1'
      split
      · exact ⟨by omega, by show ((i : Nat) : Int) ≤ _; omega, by decide⟩
      · rename_i h5
        have hp := pred_told (q := q) hl1
        cases hq : predQ q (i + 1) with
        | error e => rw [hq] at hp; exact hp
        | ok r =>
          obtain ⟨p, n⟩ := r
          rw [hq] at hp
          simp only
          split
          · exact ⟨by omega, by show ((n : Nat) : Int) ≤ _; have := hp.2.1; omega, by decide⟩
          · rename_i h6
            have h6' : thereB q n [93] = true := by simpa using h6
            have hl2 : n + 1 ≤ q.size := there_le hp.2.1 h6'
            have ih := preds_told f (n + 1) (acc ++ [p]) hl2 (fun z hz => by
              rcases List.mem_append.1 hz with r | r
              · exact ha z r
              · simp only [List.mem_singleton] at r; rw [r]; exact hp.2.2) (by simp; omega)
            cases hr : predsF f q (n + 1) (acc ++ [p]) with
            | error e => rw [hr] at ih; exact ih
            | ok z =>
              obtain ⟨l, m⟩ := z
              rw [hr] at ih
              exact ⟨by have := ih.1; have := hp.1; omega, ih.2.1, ih.2.2⟩
theorem predsQ_told {q : ByteArray} {i : Nat} (h : i ≤ q.size) (s : Step) (ha : 1 ≤ s.axis ∧ s.axis ≤ 8) (ht : (s.test = 1 ∧ nameP s.name = true) ∨ ((s.test = 2 ∨ s.test = 3 ∨ s.test = 4) ∧ s.name = noB)) : Told q i rightS (predsQ q i s) := by
  unfold predsQ
  have := preds_told (q := q) 6 i [] h (by simp) (by simp)
  cases hr : predsF 6 q i [] with
  | error e => rw [hr] at this; exact this
  | ok z =>
    obtain ⟨l, m⟩ := z
    rw [hr] at this
    exact ⟨this.1, this.2.1, ha, ht, this.2.2.2, this.2.2.1⟩
theorem Told.from {α : Type} {q : ByteArray} {i j : Nat} {ok : α → Prop} {r : Except Bad (α × Nat)} (h : Told q j ok r) (hij : i ≤ j) : Told q i ok r := by
  cases r with
  | error e => exact h
  | ok z =>
    obtain ⟨a, n⟩ := z
    exact ⟨by have := h.1; omega, h.2⟩
theorem tested_told {q : ByteArray} {i : Nat} (h : i ≤ q.size) {a : Int} (ha : 1 ≤ a ∧ a ≤ 8) : Told q i rightS (testedQ q i a) := by
  unfold testedQ
  split
  · rename_i h1
    have hl : i + 1 ≤ q.size := there_le h h1
    exact (predsQ_told hl _ ha (Or.inr ⟨Or.inl rfl, rfl⟩)).from (by omega)
  · split
    · rename_i h1
      have hl : i + 6 ≤ q.size := there_le h h1
      exact (predsQ_told hl _ ha (Or.inr ⟨Or.inr (Or.inl rfl), rfl⟩)).from (by omega)
    · split
      · rename_i h1
        have hl : i + 6 ≤ q.size := there_le h h1
        exact (predsQ_told hl _ ha (Or.inr ⟨Or.inr (Or.inr rfl), rfl⟩)).from (by omega)
      · obtain ⟨n1, n2⟩ := nameEnd_le h
        simp only
        split
        · exact ⟨by omega, by show ((i : Nat) : Int) ≤ _; omega, by decide⟩
        · rename_i h2
          have h2' : nameP (q.extract i (nameEnd q i)) = true := by simpa using h2
          exact (predsQ_told n2 ⟨a, 1, q.extract i (nameEnd q i), []⟩ ha (Or.inl ⟨rfl, h2'⟩)).from n1
theorem axis_told {q : ByteArray} {i : Nat} (h : i ≤ q.size) : ∀ (l : List (Int × List UInt8)), (∀ a ∈ l, 1 ≤ a.1 ∧ a.1 ≤ 8) → i ≤ (axisF q i l).2 ∧ (axisF q i l).2 ≤ q.size ∧ 1 ≤ (axisF q i l).1 ∧ (axisF q i l).1 ≤ 8
  | [], _ => ⟨Nat.le_refl _, h, by show (1 : Int) ≤ 1; decide, by show (1 : Int) ≤ 8; decide⟩
  | a :: l, ha => by
    unfold axisF
    split
    · rename_i h1
      have := there_le h h1
      exact ⟨by simp, this, ha a (List.mem_cons_self ..)⟩
    · exact axis_told h l fun z hz => ha z (List.mem_cons_of_mem _ hz)
theorem step_told {q : ByteArray} {i : Nat} (h : i ≤ q.size) : Told q i rightS (stepQ q i) := by
  unfold stepQ
  split
  · rename_i h1
    have hl : i + 2 ≤ q.size := there_le h h1
    exact ⟨by omega, hl, by decide, Or.inr ⟨Or.inr (Or.inr rfl), rfl⟩, by decide, by simp⟩
  · split
    · rename_i h1
      have hl : i + 1 ≤ q.size := there_le h h1
      exact ⟨by omega, hl, by decide, Or.inr ⟨Or.inr (Or.inr rfl), rfl⟩, by decide, by simp⟩
    · obtain ⟨a1, a2, a3, a4⟩ := axis_told h axes (by decide)
      exact (tested_told a2 ⟨a3, a4⟩).from a1
theorem within_right : rightS ⟨3, 4, noB, []⟩ := ⟨by decide, Or.inr ⟨Or.inr (Or.inr rfl), rfl⟩, by decide, by simp⟩
def ToldL (q : ByteArray) : Except Bad (List Step) → Prop
  | .error (z, e) => 0 ≤ z ∧ z ≤ (q.size : Int) ∧ e ≠ 0
  | .ok l => (∀ s ∈ l, rightS s) ∧ l.length ≤ 20 ∧ l ≠ []
/-- What was read may be; what is amiss has a place in the query, or at its end. -/
theorem parse_told {q : ByteArray} : ∀ (f i : Nat) (acc : List Step), i ≤ q.size → (∀ s ∈ acc, rightS s) → acc.length ≤ 20 → q.size - i < f → ToldL q (parseF f q i acc)
  | 0, _, _, _, _, _, h => by omega
  | f + 1, i, acc, h, ha, hl, hf => by
    unfold parseF
    split
    · rename_i h1
      exact ⟨ha, hl, h1.2⟩
    · split
      · exact ⟨by omega, by show ((i : Nat) : Int) ≤ _; omega, by decide⟩
      · rename_i h1 h2
        have h2' : thereB q i [47] = true := by simpa using h2
        have hl1 : i + 1 ≤ q.size := there_le h h2'
        have hfrom : (if thereB q (i + 1) [47] = true then i + 2 else i + 1) ≤ q.size ∧ i + 1 ≤ (if thereB q (i + 1) [47] = true then i + 2 else i + 1) := by
          split
          · rename_i h4
            have : i + 1 + 1 ≤ q.size := there_le hl1 h4
            omega
          · omega
        have hacc : ∀ s ∈ (if thereB q (i + 1) [47] = true then acc ++ [(⟨3, 4, noB, []⟩ : Step)] else acc), rightS s := by
          intro s hs
          split at hs
          · rcases List.mem_append.1 hs with r | r
            · exact ha s r
            · simp only [List.mem_singleton] at r; rw [r]; exact within_right
          · exact ha s hs
        simp only
        generalize (if thereB q (i + 1) [47] = true then i + 2 else i + 1) = j at *
        generalize (if thereB q (i + 1) [47] = true then acc ++ [(⟨3, 4, noB, []⟩ : Step)] else acc) = acc' at *
        by_cases h3 : 20 ≤ acc'.length
        · rw [if_pos h3]
          exact ⟨by omega, by show ((i : Nat) : Int) ≤ _; omega, by decide⟩
        · rw [if_neg h3]
          have st := step_told (q := q) hfrom.1
          cases hq : stepQ q j with
          | error e => rw [hq] at st; exact st
          | ok z =>
            obtain ⟨s, n⟩ := z
            rw [hq] at st
            exact parse_told f n (acc' ++ [s]) st.2.1 (fun z hz => by
              rcases List.mem_append.1 hz with r | r
              · exact hacc z r
              · simp only [List.mem_singleton] at r; rw [r]; exact st.2.2) (by simp; omega) (by have := st.1; omega)
/-- What was read may be. -/
theorem parse_right {q : ByteArray} {l : List Step} (h : parseP q = .ok l) : (∀ s ∈ l, rightS s) ∧ l.length ≤ 20 ∧ l ≠ [] := by
  unfold parseP at h
  split at h
  · cases h
  · have := parse_told (q := q) (q.size + 1) 0 [] (Nat.zero_le _) (by simp) (by simp) (by omega)
    rw [h] at this
    exact this
/-- Places lie in the query, or at its end. -/
theorem parse_place {q : ByteArray} {z e : Int} (h : parseP q = .error (z, e)) : (0 ≤ z ∧ z ≤ (q.size : Int) ∧ e ≠ 0) ∧ (e = 71 → z = 0 ∨ ¬ 200 < q.size) := by
  unfold parseP at h
  split at h
  · simp only [Except.error.injEq, Prod.mk.injEq] at h
    obtain ⟨rfl, rfl⟩ := h
    exact ⟨⟨by decide, by omega, by decide⟩, fun _ => Or.inl rfl⟩
  · rename_i hs
    have := parse_told (q := q) (q.size + 1) 0 [] (Nat.zero_le _) (by simp) (by simp) (by omega)
    rw [h] at this
    exact ⟨this, fun _ => Or.inr hs⟩
end Q
end Go.Proofs.YtmgemdhpjibdiaaDoor
