/- Plain mathematics: what is read of a query that is not too long has no long names or values. -/
import Derived.Test.YtncgkglebpobpaaDoorQW3
namespace Go.Proofs.YtncgkglebpobpaaDoor
theorem FitS.mono {A B : Nat} {s : Q.Step} (h : FitS A s) (hab : A ≤ B) : FitS B s := ⟨Nat.le_trans h.1 hab, fun p hp => ⟨Nat.le_trans (h.2 p hp).1 hab, Nat.le_trans (h.2 p hp).2 hab⟩⟩
namespace Q
open L G E S
theorem stepU_len (v : Bool) (l : List UInt8) (h : (E.stepU v l).2.2 = 0) (_ : l ≠ []) : (E.stepU v l).1.length ≤ 4 ∧ 0 < (E.stepU v l).2.1 := by
  unfold E.stepU at h ⊢
  by_cases h1 : (nextL l).1 = 38
  · rw [if_pos h1] at h ⊢
    by_cases h2 : (refL l).2 = 0
    · rw [if_pos h2] at h; exact absurd h (by show (20 : Int) ≠ 0; decide)
    · rw [if_neg h2] at h ⊢
      by_cases h3 : charB (refL l).1 = false
      · rw [if_pos h3] at h; exact absurd h (by show (21 : Int) ≠ 0; decide)
      · rw [if_neg h3]
        exact ⟨(putL_len _).2, by show 0 < (refL l).2; omega⟩
  · rw [if_neg h1] at h ⊢
    by_cases h2 : (nextL l).1 = 60 ∨ (nextL l).1 = 62
    · rw [if_pos h2] at h; exact absurd h (by show (20 : Int) ≠ 0; decide)
    · rw [if_neg h2] at h ⊢
      by_cases h3 : (nextL l).2 = 0 ∨ insteadL (nextL l).1 v ≠ []
      · rw [if_pos h3] at h; exact absurd h (by show (21 : Int) ≠ 0; decide)
      · rw [if_neg h3]
        have h4 : (nextL l).2 ≠ 0 := fun q => h3 (Or.inl q)
        have h5 : putL (nextL l).1 = l.take (nextL l).2 := (next_putL l (nextL l).1 (nextL l).2 (by simp) h4).2
        refine ⟨?_, by show 0 < (nextL l).2; omega⟩
        show (l.take (nextL l).2).length ≤ 4
        rw [← h5]
        exact (putL_len _).2
theorem undo_len (v : Bool) : ∀ (f o : Nat) (acc l r : List UInt8) (k : Nat), E.undoF v f o acc l = (r, k, 0) → r.length ≤ acc.length + 4 * l.length
  | 0, o, acc, l, r, k, h => by
    simp only [E.undoF, Prod.mk.injEq] at h
    rw [← h.1]
    omega
  | f + 1, o, acc, l, r, k, h => by
    unfold E.undoF at h
    by_cases h1 : l = []
    · rw [if_pos h1] at h
      simp only [Prod.mk.injEq] at h
      rw [← h.1]
      omega
    · rw [if_neg h1] at h
      by_cases h2 : (E.stepU v l).2.2 ≠ 0
      · rw [if_pos h2] at h
        simp only [Prod.mk.injEq] at h
        exact absurd h.2.2 h2
      · rw [if_neg h2] at h
        have h3 : (E.stepU v l).2.2 = 0 := by simpa using h2
        have h4 := undo_len v f _ _ _ _ _ h
        obtain ⟨h5, h6⟩ := stepU_len v l h3 h1
        have h7 : 0 < l.length := List.length_pos_iff.2 h1
        rw [List.length_append, List.length_drop] at h4
        omega
theorem value_fit {q : ByteArray} {i n : Nat} {v : ByteArray} (h : valueQ q i = .ok (v, n)) : v.size ≤ 4 * q.size := by
  unfold valueQ at h
  simp only at h
  split at h
  · cases h
  · split at h
    · cases h
    · split at h
      · cases h
      · rename_i h3
        simp only [Except.ok.injEq, Prod.mk.injEq] at h
        have h4 : (undoB true (q.extract (i + 1) (runP (notB 34) q (i + 1)))).2.2 = 0 := by simpa using h3
        have h5 := undo_len true _ 0 [] _ (undoL true (q.extract (i + 1) (runP (notB 34) q (i + 1))).data.toList).1 (undoL true (q.extract (i + 1) (runP (notB 34) q (i + 1))).data.toList).2.1 (by
          have : (undoL true (q.extract (i + 1) (runP (notB 34) q (i + 1))).data.toList).2.2 = 0 := h4
          rw [← this]
          rfl)
        rw [← h.1]
        have h6 : (q.extract (i + 1) (runP (notB 34) q (i + 1))).data.toList.length ≤ q.size := by simp; omega
        have h7 : (undoB true (q.extract (i + 1) (runP (notB 34) q (i + 1)))).1.size = (undoL true (q.extract (i + 1) (runP (notB 34) q (i + 1))).data.toList).1.length := by
          show (List.toArray _).size = _
          rw [List.size_toArray]
        rw [h7]
        simp only [List.length_nil, Nat.zero_add] at h5
        omega
theorem pred_fit {q : ByteArray} {i n : Nat} {p : Pred} (h : predQ q i = .ok (p, n)) : p.value.size ≤ 4 * q.size := by
  unfold predQ at h
  split at h
  · simp only [Except.ok.injEq, Prod.mk.injEq] at h; rw [← h.1]; exact Nat.zero_le _
  · split at h
    · split at h
      · cases h
      · split at h
        · cases h
        · rename_i h1
          simp only [Except.ok.injEq, Prod.mk.injEq] at h
          rw [← h.1]
          exact value_fit h1
    · split at h
      · unfold numberQ at h
        simp only at h
        split at h
        · cases h
        · simp only [Except.ok.injEq, Prod.mk.injEq] at h; rw [← h.1]; exact Nat.zero_le _
      · simp only at h
        split at h
        · cases h
        · split at h
          · simp only [Except.ok.injEq, Prod.mk.injEq] at h; rw [← h.1]; exact Nat.zero_le _
          · split at h
            · cases h
            · rename_i h1
              simp only [Except.ok.injEq, Prod.mk.injEq] at h
              rw [← h.1]
              exact value_fit h1
theorem preds_fit {q : ByteArray} {n : Nat} {l : List Pred} : ∀ (f i : Nat) (acc : List Pred), (∀ p ∈ acc, p.value.size ≤ 4 * q.size) → predsF f q i acc = .ok (l, n) → ∀ p ∈ l, p.value.size ≤ 4 * q.size
  | 0, i, acc, ha, h => by
    simp only [predsF, Except.ok.injEq, Prod.mk.injEq] at h
    rw [← h.1]
    exact ha
  | f + 1, i, acc, ha, h => by
    unfold predsF at h
    split at h
    · simp only [Except.ok.injEq, Prod.mk.injEq] at h
      rw [← h.1]
      exact ha
    · split at h
      · cases h
      · split at h
        · cases h
        · rename_i h1
          split at h
          · cases h
          · refine preds_fit f _ _ (fun p hp => ?_) h
            rcases List.mem_append.1 hp with hp | hp
            · exact ha p hp
            · simp only [List.mem_singleton] at hp
              rw [hp]
              exact pred_fit h1
theorem predsQ_fit {q : ByteArray} {i n : Nat} {s0 s : Step} (h : predsQ q i s0 = .ok (s, n)) : ∀ p ∈ s.preds, p.value.size ≤ 4 * q.size := by
  unfold predsQ at h
  split at h
  · cases h
  · rename_i h1
    simp only [Except.ok.injEq, Prod.mk.injEq] at h
    rw [← h.1]
    exact preds_fit _ _ _ (by simp) h1
theorem step_fit {q : ByteArray} {i n : Nat} {s : Step} (h : stepQ q i = .ok (s, n)) : ∀ p ∈ s.preds, p.value.size ≤ 4 * q.size := by
  unfold stepQ at h
  split at h
  · simp only [Except.ok.injEq, Prod.mk.injEq] at h; rw [← h.1]; simp
  · split at h
    · simp only [Except.ok.injEq, Prod.mk.injEq] at h; rw [← h.1]; simp
    · unfold testedQ at h
      split at h
      · exact predsQ_fit h
      · split at h
        · exact predsQ_fit h
        · split at h
          · exact predsQ_fit h
          · simp only at h
            split at h
            · cases h
            · exact predsQ_fit h
theorem parseF_fit {q : ByteArray} {l : List Step} : ∀ (f i : Nat) (acc : List Step), (∀ s ∈ acc, ∀ p ∈ s.preds, p.value.size ≤ 4 * q.size) → parseF f q i acc = .ok l → ∀ s ∈ l, ∀ p ∈ s.preds, p.value.size ≤ 4 * q.size
  | 0, i, acc, ha, h => by
    simp only [parseF, Except.ok.injEq] at h
    rw [← h]
    exact ha
  | f + 1, i, acc, ha, h => by
    unfold parseF at h
    split at h
    · simp only [Except.ok.injEq] at h
      rw [← h]
      exact ha
    · split at h
      · cases h
      · simp only at h
        have hx : ∀ s ∈ (if L.thereB q (i + 1) [47] = true then acc ++ [(⟨3, 4, noB, []⟩ : Step)] else acc), ∀ p ∈ s.preds, p.value.size ≤ 4 * q.size := by
          intro s hs
          split at hs
          · rcases List.mem_append.1 hs with hs | hs
            · exact ha s hs
            · simp only [List.mem_singleton] at hs
              rw [hs]
              simp
          · exact ha s hs
        generalize (if L.thereB q (i + 1) [47] = true then acc ++ [(⟨3, 4, noB, []⟩ : Step)] else acc) = x at h hx
        generalize (if L.thereB q (i + 1) [47] = true then i + 2 else i + 1) = y at h
        split at h
        · cases h
        · split at h
          · cases h
          · rename_i h1
            refine parseF_fit f _ _ (fun s hs => ?_) h
            rcases List.mem_append.1 hs with hs | hs
            · exact hx s hs
            · simp only [List.mem_singleton] at hs
              rw [hs]
              exact step_fit h1
theorem name_size {b : ByteArray} (h : L.nameP b = true) : b.size ≤ 60 := by
  unfold L.nameP G.nameB at h
  simp only [Bool.and_eq_true, decide_eq_true_eq] at h
  have : b.data.toList.length = b.size := by simp
  omega
theorem parse_fit {q : ByteArray} {l : List Step} (h : parseP q = .ok l) : ∀ s ∈ l, FitS 800 s := by
  obtain ⟨hr, _, _⟩ := parse_right h
  unfold parseP at h
  split at h
  · cases h
  · rename_i hq
    have hv := parseF_fit _ _ _ (by simp) h
    intro s hs
    have hs1 := hr s hs
    refine ⟨?_, fun p hp => ⟨?_, by have := hv s hs p hp; omega⟩⟩
    · rcases hs1.2.1 with ⟨_, h1⟩ | ⟨_, h1⟩
      · have := name_size h1; omega
      · rw [h1]; exact Nat.zero_le _
    · rcases hs1.2.2.2 p hp with ⟨_, _, _, h1, _⟩ | ⟨_, _, h1, _⟩ | ⟨_, _, h1, _⟩ | ⟨_, _, h1, _⟩ | ⟨_, _, h1, _⟩
      · rw [h1]; exact Nat.zero_le _
      · rw [h1]; exact Nat.zero_le _
      · have := name_size h1; omega
      · have := name_size h1; omega
      · rw [h1]; exact Nat.zero_le _
end Q
end Go.Proofs.YtncgkglebpobpaaDoor
