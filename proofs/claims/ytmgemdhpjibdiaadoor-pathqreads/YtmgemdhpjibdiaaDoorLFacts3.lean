/- Plain mathematics for layer lexis, more: tokens go on; what is known of each; all of them; what stands behind does not matter. -/
import Derived.Test.YtmgemdhpjibdiaaDoorLFacts2
namespace Go.Proofs.YtmgemdhpjibdiaaDoor
namespace L
open G E
theorem end_ok {s : ByteArray} {i : Nat} {t : Tok} {n : Nat} (h : endP s i = .ok (t, n)) : nameP (s.extract (i + 2) (runP wordB s (i + 2))) = true ∧ thereB s (runP blankB s (runP wordB s (i + 2))) [62] = true ∧
    t = ⟨2, i, s.extract (i + 2) (runP wordB s (i + 2)), noB, []⟩ ∧ n = runP blankB s (runP wordB s (i + 2)) + 1 := by
  unfold endP at h
  simp only at h
  split at h
  · cases h
  split at h
  · rename_i h1 h2
    simp only [Except.ok.injEq, Prod.mk.injEq] at h
    exact ⟨by simpa using h1, h2, h.1.symm, h.2.symm⟩
  · cases h
theorem text_ok {s : ByteArray} {i : Nat} {t : Tok} {n : Nat} (h : textP s i = .ok (t, n)) : (undoB false (s.extract i (runP (notB 60) s i))).2.2 = 0 ∧ (undoB false (s.extract i (runP (notB 60) s i))).1.size ≤ 1500 ∧
    t = ⟨4, i, noB, (undoB false (s.extract i (runP (notB 60) s i))).1, []⟩ ∧ n = runP (notB 60) s i := by
  unfold textP at h
  simp only at h
  split at h
  · cases h
  split at h
  · cases h
  · rename_i h1 h2
    simp only [Except.ok.injEq, Prod.mk.injEq] at h
    exact ⟨by simpa using h1, by omega, h.1.symm, h.2.symm⟩
theorem beg_ok {s : ByteArray} {i : Nat} {t : Tok} {n : Nat} (h : begP s i = .ok (t, n)) : nameP (s.extract (i + 1) (runP wordB s (i + 1))) = true ∧ ∃ acc k, attrsF (s.size + 1) s (runP wordB s (i + 1)) [] = .ok (acc, k) ∧
    ((thereB s k [62] = true ∧ t = ⟨1, i, s.extract (i + 1) (runP wordB s (i + 1)), noB, sortA acc⟩ ∧ n = k + 1) ∨ (thereB s k [62] = false ∧ thereB s k [47, 62] = true ∧ t = ⟨3, i, s.extract (i + 1) (runP wordB s (i + 1)), noB, sortA acc⟩ ∧ n = k + 2)) := by
  unfold begP at h
  simp only at h
  split at h
  · cases h
  · rename_i h1
    refine ⟨by simpa using h1, ?_⟩
    cases ha : attrsF (s.size + 1) s (runP wordB s (i + 1)) [] with
    | error e => rw [ha] at h; cases h
    | ok p =>
      obtain ⟨acc, k⟩ := p
      rw [ha] at h
      simp only at h
      refine ⟨acc, k, rfl, ?_⟩
      split at h
      · rename_i h2
        simp only [Except.ok.injEq, Prod.mk.injEq] at h
        exact Or.inl ⟨h2, h.1.symm, h.2.symm⟩
      · split at h
        · rename_i h2 h3
          simp only [Except.ok.injEq, Prod.mk.injEq] at h
          exact Or.inr ⟨by simpa using h2, h3, h.1.symm, h.2.symm⟩
        · cases h
theorem there2 {s : ByteArray} {i : Nat} {a c : UInt8} (h : thereB s i [a, c] = true) : i + 2 ≤ s.size := by
  have := there_len h
  have h2 := there_lt h
  simp only [List.length_cons, List.length_nil] at this
  omega
theorem not_of {c d : UInt8} (h : ¬ (d == c) = true) : notB d c = true := by
  simp only [notB, bne_iff_ne, ne_eq]
  intro q
  exact h (by simp [q])
theorem one_go {s : ByteArray} {i : Nat} {t : Tok} {n : Nat} (hi : i < s.size) (h : oneN s i = .ok (t, n)) : i < n ∧ n ≤ s.size := by
  unfold oneN at h
  split at h
  · rename_i h0
    have h2 := there2 h0
    obtain ⟨_, h3, _, rfl⟩ := end_ok h
    have a1 := run_ge wordB s (i + 2)
    have a2 := run_ge blankB s (runP wordB s (i + 2))
    have a3 := there_lt h3
    omega
  · split at h
    · obtain ⟨_, acc, k, h3, h4⟩ := beg_ok h
      have a1 := run_ge wordB s (i + 1)
      have a2 := run_le (p := wordB) (s := s) (i := i + 1) (by omega)
      have a3 := attrs_ok s _ _ _ _ _ h3 a2 trivial (by simp) (by simp)
      rcases h4 with ⟨h5, _, rfl⟩ | ⟨_, h5, _, rfl⟩
      · have := there_lt h5; omega
      · have := there2 h5; omega
    · rename_i h0
      obtain ⟨_, _, _, rfl⟩ := text_ok h
      have hp : notB 60 s[i] = true := by
        rw [there1 s i 60 hi] at h0
        exact not_of h0
      rw [run_yes hi hp]
      have a1 := run_ge (notB 60) s (i + 1)
      have a2 := run_le (p := notB 60) (s := s) (i := i + 1) (by omega)
      omega
/-- A token whose parts may be. -/
def okT (t : Tok) : Prop := (t.kind = 1 ∨ t.kind = 2 ∨ t.kind = 3 ∨ t.kind = 4) ∧ (t.kind < 4 → nameP t.name = true) ∧ (t.kind = 4 → t.name = noB) ∧ ¬ countZ t.text.data.toList < 0 ∧ t.text.size ≤ 1500 ∧ t.attrs.length ≤ 20 ∧ (∀ a ∈ t.attrs, okA a) ∧ Rise t.attrs
theorem one_may {s : ByteArray} {i : Nat} {t : Tok} {n : Nat} (hi : i < s.size) (h : oneN s i = .ok (t, n)) : okT t ∧ t.pos = i ∧ (t.kind = 4 → t.text.size ≠ 0) := by
  have c0 : ¬ countZ noB.data.toList < 0 := by decide
  unfold oneN at h
  split at h
  · obtain ⟨h1, _, rfl, _⟩ := end_ok h
    exact ⟨⟨by simp, fun _ => h1, by simp, c0, by show noB.size ≤ 1500; decide, by simp, by simp, trivial⟩, rfl, by simp⟩
  · split at h
    · obtain ⟨h1, acc, k, h3, h4⟩ := beg_ok h
      have a2 := run_le (p := wordB) (s := s) (i := i + 1) (by omega)
      obtain ⟨r1, r2, r3, _⟩ := attrs_ok s _ _ _ _ _ h3 a2 trivial (by simp) (by simp)
      obtain ⟨q1, q2⟩ := sort_rise acc r1
      have q3 : (sortA acc).length ≤ 20 := by rw [q2.length_eq]; exact r3
      have q4 : ∀ a ∈ sortA acc, okA a := fun a ha => r2 a (q2.subset ha)
      rcases h4 with ⟨_, rfl, _⟩ | ⟨_, _, rfl, _⟩
      · exact ⟨⟨by simp, fun _ => h1, by simp, c0, by show noB.size ≤ 1500; decide, q3, q4, q1⟩, rfl, by simp⟩
      · exact ⟨⟨by simp, fun _ => h1, by simp, c0, by show noB.size ≤ 1500; decide, q3, q4, q1⟩, rfl, by simp⟩
    · rename_i h0
      obtain ⟨h1, h2, rfl, _⟩ := text_ok h
      obtain ⟨ys, h3, h4⟩ := undo_chars _ _ h1
      refine ⟨⟨by simp, by simp, by simp, count_of h3, h2, by simp, by simp, trivial⟩, rfl, fun _ => ?_⟩
      have hp : notB 60 s[i] = true := by
        rw [there1 s i 60 hi] at h0
        exact not_of h0
      have hsz : (s.extract i (runP (notB 60) s i)).size ≠ 0 := by
        have a1 := run_ge (notB 60) s (i + 1)
        have a2 := run_le (p := notB 60) (s := s) (i := i + 1) (by omega)
        rw [run_yes hi hp]
        simp
        omega
      have := h4 hsz
      intro q
      apply this
      have e : (undoB false (s.extract i (runP (notB 60) s i))).1.data.toList = [] := by
        apply List.length_eq_zero_iff.1
        simpa using q
      rw [e, chars_nil] at h3
      simpa using h3.symm
/-- A text ends at a tag, or at the end. -/
theorem text_stop {s : ByteArray} {i : Nat} {t : Tok} {n : Nat} (h : oneN s i = .ok (t, n)) (hk : t.kind = 4) (hn : n < s.size) : thereB s n [60] = true := by
  unfold oneN at h
  split at h
  · obtain ⟨_, _, rfl, _⟩ := end_ok h
    simp at hk
  · split at h
    · obtain ⟨_, acc, k, _, h4⟩ := beg_ok h
      rcases h4 with ⟨_, rfl, _⟩ | ⟨_, _, rfl, _⟩ <;> simp at hk
    · obtain ⟨_, _, _, rfl⟩ := text_ok h
      have := run_stop hn
      rw [there1 s _ 60 hn]
      have e : s[runP (notB 60) s i] = 60 := by simpa [notB] using this
      rw [e]
      rfl
theorem tag_kind {s : ByteArray} {i : Nat} {t : Tok} {n : Nat} (h : oneN s i = .ok (t, n)) (ht : thereB s i [60] = true) : t.kind ≠ 4 := by
  unfold oneN at h
  split at h
  · obtain ⟨_, _, rfl, _⟩ := end_ok h
    simp
  · try rw [if_pos ht] at h
    obtain ⟨_, acc, k, _, h4⟩ := beg_ok h
    rcases h4 with ⟨_, rfl, _⟩ | ⟨_, _, rfl, _⟩ <;> simp
theorem all_succ (f : Nat) (s : ByteArray) (i : Nat) (acc : List Tok) : allF (f + 1) s i acc = if s.size ≤ i then .ok acc else match oneN s i with
    | .error e => .error e
    | .ok (t, n) => allF f s n (acc ++ [t]) := rfl
theorem all_end {f : Nat} {s : ByteArray} {i : Nat} {acc : List Tok} (h : s.size ≤ i) : allF f s i acc = .ok acc := by
  cases f with
  | zero => rfl
  | succ f => rw [all_succ, if_pos h]
theorem all_bad {f : Nat} {s : ByteArray} {i : Nat} {acc : List Tok} {e : Bad} (hf : 0 < f) (h : i < s.size) (ho : oneN s i = .error e) : allF f s i acc = .error e := by
  obtain ⟨f, rfl⟩ : ∃ g, f = g + 1 := ⟨f - 1, by omega⟩
  rw [all_succ, if_neg (by omega), ho]
theorem all_next {f : Nat} {s : ByteArray} {i : Nat} {acc : List Tok} {t : Tok} {n : Nat} (hf : 0 < f) (h : i < s.size) (ho : oneN s i = .ok (t, n)) : allF f s i acc = allF (f - 1) s n (acc ++ [t]) := by
  obtain ⟨f, rfl⟩ : ∃ g, f = g + 1 := ⟨f - 1, by omega⟩
  rw [all_succ, if_neg (by omega), ho]
  rfl
/-- Tokens that stand side by side, from a place to the end. -/
def Side (s : ByteArray) : Nat → List Tok → Prop
  | i, [] => s.size ≤ i
  | i, t :: l => i < s.size ∧ ∃ n, oneN s i = .ok (t, n) ∧ Side s n l
theorem all_side (s : ByteArray) : ∀ (f i : Nat) (acc ts : List Tok), s.size - i < f → allF f s i acc = .ok ts → ∃ l, ts = acc ++ l ∧ Side s i l
  | 0, _, _, _, h, _ => by omega
  | f + 1, i, acc, ts, hf, h => by
    rw [all_succ] at h
    split at h
    · rename_i hi
      simp only [Except.ok.injEq] at h
      exact ⟨[], by simp [h], hi⟩
    · rename_i hi
      cases ho : oneN s i with
      | error e => rw [ho] at h; cases h
      | ok p =>
        obtain ⟨t, n⟩ := p
        rw [ho] at h
        have hg := one_go (by omega) ho
        obtain ⟨l, h1, h2⟩ := all_side s f n (acc ++ [t]) ts (by omega) h
        exact ⟨t :: l, by rw [h1]; simp, by omega, n, ho, h2⟩
theorem allP_side {s : ByteArray} {ts : List Tok} (h : allP s = .ok ts) : Side s 0 ts := by
  obtain ⟨l, h1, h2⟩ := all_side s _ _ _ _ (by omega) h
  simp only [List.nil_append] at h1
  subst h1
  exact h2
theorem side_may {s : ByteArray} : ∀ {ts : List Tok} {i : Nat}, Side s i ts → ∀ t ∈ ts, okT t
  | [], _, _, t, ht => by simp at ht
  | a :: l, i, ⟨h1, n, h2, h3⟩, t, ht => by
    rcases List.mem_cons.1 ht with rfl | ht
    · exact (one_may h1 h2).1
    · exact side_may h3 t ht
end L
end Go.Proofs.YtmgemdhpjibdiaaDoor
