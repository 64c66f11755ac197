/- Plain mathematics: what is amiss with a query that is not too long is never told as too long. -/
import Derived.Test.YtncgkglebpobpaaDoorQRight
namespace Go.Proofs.YtncgkglebpobpaaDoor
namespace Q
open L G E S
theorem stepU_e (v : Bool) (l : List UInt8) : (E.stepU v l).2.2 ≠ 71 := by
  unfold E.stepU
  by_cases h1 : (nextL l).1 = 38
  · rw [if_pos h1]
    by_cases h2 : (refL l).2 = 0
    · rw [if_pos h2]; show (20 : Int) ≠ 71; decide
    · rw [if_neg h2]
      by_cases h3 : charB (refL l).1 = false
      · rw [if_pos h3]; show (21 : Int) ≠ 71; decide
      · rw [if_neg h3]; show (0 : Int) ≠ 71; decide
  · rw [if_neg h1]
    by_cases h2 : (nextL l).1 = 60 ∨ (nextL l).1 = 62
    · rw [if_pos h2]; show (20 : Int) ≠ 71; decide
    · rw [if_neg h2]
      by_cases h3 : (nextL l).2 = 0 ∨ insteadL (nextL l).1 v ≠ []
      · rw [if_pos h3]; show (21 : Int) ≠ 71; decide
      · rw [if_neg h3]; show (0 : Int) ≠ 71; decide
theorem undo_e (v : Bool) : ∀ (f o : Nat) (acc l r : List UInt8) (k : Nat) (e : Int), E.undoF v f o acc l = (r, k, e) → e ≠ 71
  | 0, o, acc, l, r, k, e, h => by
    simp only [E.undoF, Prod.mk.injEq] at h
    omega
  | f + 1, o, acc, l, r, k, e, h => by
    unfold E.undoF at h
    split at h
    · simp only [Prod.mk.injEq] at h; omega
    · split at h
      · simp only [Prod.mk.injEq] at h
        rw [← h.2.2]
        exact stepU_e v l
      · exact undo_e v f _ _ _ _ _ _ h
theorem undoB_e (v : Bool) (b : ByteArray) : (undoB v b).2.2 ≠ 71 :=
  undo_e v (b.data.toList.length + 1) 0 [] b.data.toList (undoL v b.data.toList).1 (undoL v b.data.toList).2.1 (undoL v b.data.toList).2.2 rfl
theorem value_e {q : ByteArray} {i : Nat} {z e : Int} (h : valueQ q i = .error (z, e)) : e ≠ 71 := by
  unfold valueQ at h
  simp only at h
  split at h
  · simp only [Except.error.injEq, Prod.mk.injEq] at h; omega
  · split at h
    · simp only [Except.error.injEq, Prod.mk.injEq] at h; omega
    · split at h
      · simp only [Except.error.injEq, Prod.mk.injEq] at h
        rw [← h.2]
        exact undoB_e _ _
      · cases h
theorem number_e {q : ByteArray} {i : Nat} {z e : Int} (h : numberQ q i = .error (z, e)) : e ≠ 71 := by
  unfold numberQ at h
  simp only at h
  split at h
  · simp only [Except.error.injEq, Prod.mk.injEq] at h; omega
  · cases h
theorem pred_e {q : ByteArray} {i : Nat} {z e : Int} (h : predQ q i = .error (z, e)) : e ≠ 71 := by
  unfold predQ at h
  split at h
  · cases h
  · split at h
    · split at h
      · simp only [Except.error.injEq, Prod.mk.injEq] at h; omega
      · split at h
        · rename_i h1
          simp only [Except.error.injEq] at h
          subst h
          exact value_e h1
        · cases h
    · split at h
      · exact number_e h
      · simp only at h
        split at h
        · simp only [Except.error.injEq, Prod.mk.injEq] at h; omega
        · split at h
          · cases h
          · split at h
            · rename_i h1
              simp only [Except.error.injEq] at h
              subst h
              exact value_e h1
            · cases h
theorem preds_e {q : ByteArray} {z e : Int} : ∀ (f i : Nat) (acc : List Pred), predsF f q i acc = .error (z, e) → e ≠ 71
  | 0, i, acc, h => by cases h
  | f + 1, i, acc, h => by
    unfold predsF at h
    split at h
    · cases h
    · split at h
      · simp only [Except.error.injEq, Prod.mk.injEq] at h; omega
      · split at h
        · rename_i h1
          simp only [Except.error.injEq] at h
          subst h
          exact pred_e h1
        · split at h
          · simp only [Except.error.injEq, Prod.mk.injEq] at h; omega
          · exact preds_e f _ _ h
theorem predsQ_e {q : ByteArray} {i : Nat} {s : Step} {z e : Int} (h : predsQ q i s = .error (z, e)) : e ≠ 71 := by
  unfold predsQ at h
  split at h
  · rename_i h1
    simp only [Except.error.injEq] at h
    subst h
    exact preds_e _ _ _ h1
  · cases h
theorem step_e {q : ByteArray} {i : Nat} {z e : Int} (h : stepQ q i = .error (z, e)) : e ≠ 71 := by
  unfold stepQ at h
  split at h
  · cases h
  · split at h
    · cases h
    · unfold testedQ at h
      split at h
      · exact predsQ_e h
      · split at h
        · exact predsQ_e h
        · split at h
          · exact predsQ_e h
          · simp only at h
            split at h
            · simp only [Except.error.injEq, Prod.mk.injEq] at h; omega
            · exact predsQ_e h
theorem parse_e {q : ByteArray} {z e : Int} : ∀ (f i : Nat) (acc : List Step), parseF f q i acc = .error (z, e) → e ≠ 71
  | 0, i, acc, h => by cases h
  | f + 1, i, acc, h => by
    unfold parseF at h
    split at h
    · cases h
    · split at h
      · simp only [Except.error.injEq, Prod.mk.injEq] at h; omega
      · simp only at h
        generalize (if L.thereB q (i + 1) [47] = true then acc ++ [(⟨3, 4, noB, []⟩ : Step)] else acc) = x at h
        generalize (if L.thereB q (i + 1) [47] = true then i + 2 else i + 1) = y at h
        split at h
        · simp only [Except.error.injEq, Prod.mk.injEq] at h; omega
        · split at h
          · rename_i h1
            simp only [Except.error.injEq] at h
            subst h
            exact step_e h1
          · exact parse_e f _ _ h
theorem no_long {s : ByteArray} {z : Int} (hl : ¬ 200 < s.size) : parseP s ≠ .error (z, 71) := by
  intro h
  unfold parseP at h
  rw [if_neg hl] at h
  exact parse_e _ _ _ h rfl
end Q
end Go.Proofs.YtncgkglebpobpaaDoor
