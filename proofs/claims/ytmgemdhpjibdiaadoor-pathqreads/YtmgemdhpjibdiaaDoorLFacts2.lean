/- Plain mathematics for layer lexis, more: what is known of a token that is told; how much is enough. -/
import Derived.Test.YtmgemdhpjibdiaaDoorLFacts
namespace Go.Proofs.YtmgemdhpjibdiaaDoor
namespace L
open G E
theorem attr_ok {s : ByteArray} {i : Nat} {acc : List Attr} {a : Attr} {m : Nat} (h : attrP s i acc = .ok (a, m)) :
    nameP (s.extract i (runP wordB s i)) = true ∧ acc.length < 20 ∧ (acc.any fun x => decide (x.1 = s.extract i (runP wordB s i))) = false ∧ thereB s (runP wordB s i) [61] = true ∧ thereB s (runP wordB s i + 1) [34] = true ∧
    runP (notB 34) s (runP wordB s i + 2) < s.size ∧ (undoB true (s.extract (runP wordB s i + 2) (runP (notB 34) s (runP wordB s i + 2)))).2.2 = 0 ∧ (undoB true (s.extract (runP wordB s i + 2) (runP (notB 34) s (runP wordB s i + 2)))).1.size ≤ 1500 ∧
    a = (s.extract i (runP wordB s i), (undoB true (s.extract (runP wordB s i + 2) (runP (notB 34) s (runP wordB s i + 2)))).1) ∧ m = runP (notB 34) s (runP wordB s i + 2) + 1 := by
  unfold attrP at h
  simp only at h
  split at h
  · cases h
  split at h
  · cases h
  split at h
  · cases h
  split at h
  · cases h
  split at h
  · cases h
  split at h
  · cases h
  split at h
  · cases h
  split at h
  · cases h
  rename_i h1 h2 h3 h4 h5 h6 h7 h8
  simp only [Except.ok.injEq, Prod.mk.injEq] at h
  obtain ⟨e1, e2⟩ := h
  exact ⟨by simpa using h1, by omega, Bool.eq_false_iff.2 h3, by simpa using h4, by simpa using h5, by omega, by simpa using h7, by omega, e1.symm, e2.symm⟩
theorem attr_mk {s : ByteArray} {i : Nat} {acc : List Attr} (h1 : nameP (s.extract i (runP wordB s i)) = true) (h2 : acc.length < 20) (h3 : (acc.any fun x => decide (x.1 = s.extract i (runP wordB s i))) = false) (h4 : thereB s (runP wordB s i) [61] = true) (h5 : thereB s (runP wordB s i + 1) [34] = true)
    (h6 : runP (notB 34) s (runP wordB s i + 2) < s.size) (h7 : (undoB true (s.extract (runP wordB s i + 2) (runP (notB 34) s (runP wordB s i + 2)))).2.2 = 0) (h8 : (undoB true (s.extract (runP wordB s i + 2) (runP (notB 34) s (runP wordB s i + 2)))).1.size ≤ 1500) :
    attrP s i acc = .ok ((s.extract i (runP wordB s i), (undoB true (s.extract (runP wordB s i + 2) (runP (notB 34) s (runP wordB s i + 2)))).1), runP (notB 34) s (runP wordB s i + 2) + 1) := by
  unfold attrP
  simp only
  rw [if_neg (by simp [h1]), if_neg (by omega), if_neg (by simp [h3]), if_neg (by simp [h4]), if_neg (by simp [h5]), if_neg (by omega), if_neg (by simp [h7]), if_neg (by omega)]
theorem attr_go {s : ByteArray} {i : Nat} {acc : List Attr} {a : Attr} {m : Nat} (h : attrP s i acc = .ok (a, m)) : i + 2 ≤ m ∧ m ≤ s.size ∧ i < s.size := by
  obtain ⟨_, _, _, h4, h5, h6, _, _, _, rfl⟩ := attr_ok h
  have a1 := run_ge wordB s i
  have a2 := there_lt h4
  have a3 := there_lt h5
  have a4 := run_ge (notB 34) s (runP wordB s i + 2)
  omega
theorem attr_apart {s : ByteArray} {i : Nat} {acc : List Attr} {a : Attr} {m : Nat} (h : attrP s i acc = .ok (a, m)) : ∀ x ∈ acc, x.1 ≠ a.1 := by
  obtain ⟨_, _, h3, _, _, _, _, _, rfl, _⟩ := attr_ok h
  intro x hx
  have := List.any_eq_false.1 h3 x hx
  simpa using this
/-- An attribute that may be. -/
def okA (a : Attr) : Prop := nameP a.1 = true ∧ ¬ countZ a.2.data.toList < 0 ∧ a.2.size ≤ 1500
theorem attr_may {s : ByteArray} {i : Nat} {acc : List Attr} {a : Attr} {m : Nat} (h : attrP s i acc = .ok (a, m)) : okA a := by
  obtain ⟨h1, _, _, _, _, _, h7, h8, rfl, _⟩ := attr_ok h
  obtain ⟨ys, h9, _⟩ := undo_chars _ _ h7
  exact ⟨h1, count_of h9, h8⟩
theorem more_go {s : ByteArray} {i k : Nat} (h : moreB s i k = true) : i < k ∧ k < s.size ∧ thereB s k [62] = false ∧ thereB s k [47, 62] = false := by
  simpa [moreB, and_assoc] using h
theorem attrs_succ (f : Nat) (s : ByteArray) (i : Nat) (acc : List Attr) : attrsF (f + 1) s i acc = if moreB s i (runP blankB s i) = true then
      (match attrP s (runP blankB s i) acc with
        | .error e => .error e
        | .ok (a, n) => attrsF f s n (acc ++ [a]))
      else .ok (acc, runP blankB s i) := rfl
theorem attrs_stop {f : Nat} {s : ByteArray} {i : Nat} {acc : List Attr} (hf : 0 < f) (h : moreB s i (runP blankB s i) = false) : attrsF f s i acc = .ok (acc, runP blankB s i) := by
  obtain ⟨f, rfl⟩ : ∃ g, f = g + 1 := ⟨f - 1, by omega⟩
  rw [attrs_succ, if_neg (by simp [h])]
theorem attrs_bad {f : Nat} {s : ByteArray} {i : Nat} {acc : List Attr} {e : Bad} (hf : 0 < f) (h : moreB s i (runP blankB s i) = true) (ha : attrP s (runP blankB s i) acc = .error e) : attrsF f s i acc = .error e := by
  obtain ⟨f, rfl⟩ : ∃ g, f = g + 1 := ⟨f - 1, by omega⟩
  rw [attrs_succ, if_pos h, ha]
theorem attrs_next {f : Nat} {s : ByteArray} {i : Nat} {acc : List Attr} {a : Attr} {n : Nat} (hf : 0 < f) (h : moreB s i (runP blankB s i) = true) (ha : attrP s (runP blankB s i) acc = .ok (a, n)) : attrsF f s i acc = attrsF (f - 1) s n (acc ++ [a]) := by
  obtain ⟨f, rfl⟩ : ∃ g, f = g + 1 := ⟨f - 1, by omega⟩
  rw [attrs_succ, if_pos h, ha]
  rfl
theorem attrs_enough (s : ByteArray) : ∀ (f g i : Nat) (acc : List Attr), s.size - i < f → s.size - i < g → attrsF f s i acc = attrsF g s i acc
  | 0, _, _, _, h, _ => by omega
  | _ + 1, 0, _, _, _, h => by omega
  | f + 1, g + 1, i, acc, hf, hg => by
    rw [attrs_succ, attrs_succ]
    split
    · rename_i hm
      obtain ⟨m1, m2, _⟩ := more_go hm
      cases ha : attrP s (runP blankB s i) acc with
      | error e => rfl
      | ok p =>
        obtain ⟨a, n⟩ := p
        have := attr_go ha
        exact attrs_enough s f g n _ (by omega) (by omega)
    · rfl
/-- What is known of the attributes that are told. -/
theorem attrs_ok (s : ByteArray) : ∀ (f i : Nat) (acc acc' : List Attr) (k : Nat), attrsF f s i acc = .ok (acc', k) → i ≤ s.size → Apart acc → (∀ x ∈ acc, okA x) → acc.length ≤ 20 → Apart acc' ∧ (∀ x ∈ acc', okA x) ∧ acc'.length ≤ 20 ∧ i ≤ k ∧ k ≤ s.size
  | 0, i, acc, acc', k, h, hi, h1, h2, h3 => by
    simp only [attrsF, Except.ok.injEq, Prod.mk.injEq] at h
    obtain ⟨rfl, rfl⟩ := h
    exact ⟨h1, h2, h3, Nat.le_refl _, hi⟩
  | f + 1, i, acc, acc', k, h, hi, h1, h2, h3 => by
    rw [attrs_succ] at h
    split at h
    · rename_i hm
      obtain ⟨m1, m2, _⟩ := more_go hm
      cases ha : attrP s (runP blankB s i) acc with
      | error e => rw [ha] at h; cases h
      | ok p =>
        obtain ⟨a, n⟩ := p
        rw [ha] at h
        have g := attr_go ha
        have hl := (attr_ok ha).2.1
        obtain ⟨r1, r2, r3, r4, r5⟩ := attrs_ok s f n (acc ++ [a]) acc' k h g.2.1 (apart_snoc h1 (attr_apart ha)) (by
          intro x hx
          rcases List.mem_append.1 hx with hx | hx
          · exact h2 x hx
          · simp only [List.mem_singleton] at hx; subst hx; exact attr_may ha) (by simp; omega)
        exact ⟨r1, r2, r3, by omega, r5⟩
    · simp only [Except.ok.injEq, Prod.mk.injEq] at h
      obtain ⟨rfl, rfl⟩ := h
      exact ⟨h1, h2, h3, run_ge _ _ _, run_le hi⟩
end L
end Go.Proofs.YtmgemdhpjibdiaaDoor
